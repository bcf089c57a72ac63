import unittest

from helper import KINDS, Case
from markcounts import errors


class Errors(Case):
    def test_mark_error_stands_straight_under_value_error(self):
        self.assertEqual(errors.MarkError.__bases__, (ValueError,))

    def test_each_kind_stands_straight_under_mark_error(self):
        self.assertEqual(len(set(KINDS)), 6)
        for kind in KINDS:
            self.assertEqual(kind.__bases__, (errors.MarkError,), kind.__name__)

    def test_each_is_a_mark_error_and_none_of_the_other_kinds(self):
        for kind in KINDS:
            error = kind("words")
            self.assertIsInstance(error, errors.MarkError)
            self.assertIsInstance(error, ValueError)
            self.assertEqual([other for other in KINDS if isinstance(error, other)], [kind])

    def test_each_kind_bears_its_name(self):
        names = ["NoBoard", "NoCounts", "NoNumber", "NoneSuch", "NoExchange", "NotAlike"]
        self.assertEqual([kind.__name__ for kind in KINDS], names)


if __name__ == "__main__":
    unittest.main()
