import copy
import unittest

from helper import (
    NO_BOARDS, NO_COUNTS, NONE_HAS, SMALL_SIZES, Case, all_counts, boards_by_counts, boards_having,
)
from markcounts.errors import NoBoard, NoCounts, NoNumber
from markcounts.numbers import board_at, many, number_of

THREES = [3] * 6
THREES_MANY = 297200
UNEVEN = ([1, 5, 3, 0, 2, 4], [3, 2, 4, 1, 3, 2])
THIRTY_FIGURES = 10 ** 30 - 1
LEAST_THIRTY_FIGURES = 10 ** 29


def lists_in(board):
    return [board] + list(board)


class SmallCounts(Case):
    def test_all_boards_gone_through(self):
        for height, width in SMALL_SIZES:
            found = boards_by_counts(height, width)
            for rows, columns in all_counts(height, width):
                self.hold(list(rows), list(columns), found.get((rows, columns), []))

    def hold(self, rows, columns, boards):
        self.assertEqual(many(rows, columns), len(boards), (rows, columns))
        for number, board in enumerate(boards):
            self.assertEqual(board_at(rows, columns, number), board)
            self.assertEqual(number_of(board), number)
        for number in (-1, len(boards), len(boards) + 1):
            self.refused(NoNumber, board_at, rows, columns, number)

    def test_boards_of_three_rows_and_four_columns(self):
        for (rows, columns), boards in boards_by_counts(3, 4).items():
            self.hold(list(rows), list(columns), boards)

    def test_the_order_by_an_example(self):
        boards = [
            [[0, 0, 1], [0, 1, 0], [1, 0, 0]],
            [[0, 0, 1], [1, 0, 0], [0, 1, 0]],
            [[0, 1, 0], [0, 0, 1], [1, 0, 0]],
            [[0, 1, 0], [1, 0, 0], [0, 0, 1]],
            [[1, 0, 0], [0, 0, 1], [0, 1, 0]],
            [[1, 0, 0], [0, 1, 0], [0, 0, 1]],
        ]
        self.hold([1, 1, 1], [1, 1, 1], boards)


class LargeCounts(Case):
    def test_how_many(self):
        for size, wanted in ((1, 1), (2, 2), (3, 6), (4, 24), (5, 120), (6, 720)):
            self.assertEqual(many([1] * size, [1] * size), wanted)
        for size, wanted in ((2, 1), (3, 6), (4, 90), (5, 2040), (6, 67950)):
            self.assertEqual(many([2] * size, [2] * size), wanted)
        for size, wanted in ((3, 1), (4, 24), (5, 2040), (6, THREES_MANY)):
            self.assertEqual(many([3] * size, [3] * size), wanted)
        self.assertEqual(many([0] * 6, [0] * 6), 1)
        self.assertEqual(many([6] * 6, [6] * 6), 1)
        self.assertEqual(many([6], [1] * 6), 1)
        self.assertEqual(many([1] * 6, [6]), 1)
        self.assertEqual(many([3], [1, 0, 1, 0, 0, 1]), 1)

    def test_first_and_last_of_the_threes(self):
        left = [1, 1, 1, 0, 0, 0]
        right = [0, 0, 0, 1, 1, 1]
        first = [right, right, right, left, left, left]
        last = [left, left, left, right, right, right]
        self.assertEqual(board_at(THREES, THREES, 0), first)
        self.assertEqual(board_at(THREES, THREES, THREES_MANY - 1), last)
        self.assertEqual(number_of(first), 0)
        self.assertEqual(number_of(last), THREES_MANY - 1)

    def test_some_of_the_threes_against_all_gone_through(self):
        reached = 0
        for number, board in enumerate(boards_having(THREES, THREES)):
            if number % 1999 == 0:
                self.assertEqual(board_at(THREES, THREES, number), board)
                self.assertEqual(number_of(board), number)
            reached += 1
        self.assertEqual(reached, THREES_MANY)

    def test_uneven_counts_against_all_gone_through(self):
        rows, columns = UNEVEN
        boards = list(boards_having(rows, columns))
        self.assertGreater(len(boards), 100)
        self.assertEqual(many(rows, columns), len(boards))
        for number, board in enumerate(boards):
            self.assertEqual(board_at(rows, columns, number), board)
            self.assertEqual(number_of(board), number)

    def test_numbers_that_none_has(self):
        for number in (-THIRTY_FIGURES, -100, -1, THREES_MANY, THREES_MANY + 1,
                       LEAST_THIRTY_FIGURES, THIRTY_FIGURES):
            self.refused(NoNumber, board_at, THREES, THREES, number)


class CountsThatNoBoardHas(Case):
    def test_many_tells_nought(self):
        for rows, columns in NONE_HAS:
            self.assertEqual(many(rows, columns), 0, (rows, columns))

    def test_no_number_is_had(self):
        for rows, columns in NONE_HAS:
            for number in (-1, 0, 1, THIRTY_FIGURES):
                self.refused(NoNumber, board_at, rows, columns, number)


class Refusals(Case):
    def test_no_counts(self):
        for rows, columns in NO_COUNTS:
            self.refused(NoCounts, many, rows, columns)
            self.refused(NoCounts, board_at, rows, columns, 0)

    def test_no_counts_come_ahead_of_no_number(self):
        for rows, columns in NO_COUNTS:
            for number in (-1, 1, LEAST_THIRTY_FIGURES):
                self.refused(NoCounts, board_at, rows, columns, number)

    def test_no_boards(self):
        for board in NO_BOARDS:
            self.refused(NoBoard, number_of, board)


class OwnLists(Case):
    def test_what_is_handed_in_stays(self):
        for rows, columns, number in (([1, 2], [1, 1, 1], 1), ([1, 2], [1, 1, 1], 99), ([3], [1], 0)):
            before = copy.deepcopy((rows, columns))
            for ask in (lambda: many(rows, columns), lambda: board_at(rows, columns, number)):
                try:
                    ask()
                except ValueError:
                    pass
                self.assertEqual((rows, columns), before)
        board = [[1, 0, 1], [0, 1, 1]]
        number_of(board)
        self.assertEqual(board, [[1, 0, 1], [0, 1, 1]])

    def test_one_list_handed_in_twice(self):
        twos = [2, 2, 2]
        self.assertEqual(many(twos, twos), 6)
        self.assertEqual(board_at(twos, twos, 0), [[0, 1, 1], [1, 0, 1], [1, 1, 0]])
        self.assertEqual(twos, [2, 2, 2])
        row = [0, 1]
        self.assertEqual(number_of([row, row]), 0)
        self.assertEqual(row, [0, 1])

    def test_no_two_lists_told_are_one(self):
        rows, columns = [2, 2, 2], [3, 3, 0]
        lists = lists_in(board_at(rows, columns, 0)) + lists_in(board_at(rows, columns, 0)) + [rows, columns]
        self.assertEqual(len({id(one) for one in lists}), len(lists))
        for size in range(1, 7):
            full = board_at([size] * size, [size] * size, 0)
            self.assertEqual(len({id(one) for one in lists_in(full)}), size + 1)

    def test_what_is_told_may_be_changed(self):
        told = board_at([1, 1], [1, 1], 0)
        told[0][0] = 7
        told.pop()
        self.assertEqual(board_at([1, 1], [1, 1], 0), [[0, 1], [1, 0]])
        self.assertEqual(many([1, 1], [1, 1]), 2)
        self.assertEqual(number_of([[0, 1], [1, 0]]), 0)

    def test_nothing_hangs_on_what_was_handed_in(self):
        rows, columns = [1, 1], [1, 1]
        told = board_at(rows, columns, 1)
        self.assertEqual(many(rows, columns), 2)
        rows[0] = 2
        columns[1] = 2
        self.assertEqual(told, [[1, 0], [0, 1]])
        self.assertEqual(many(rows, columns), 1)
        self.assertEqual(board_at(rows, columns, 0), [[1, 1], [0, 1]])
        board = [[1, 0], [0, 1]]
        self.assertEqual(number_of(board), 1)
        board.reverse()
        self.assertEqual(number_of(board), 0)


if __name__ == "__main__":
    unittest.main()
