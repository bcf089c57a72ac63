import unittest

from helper import (
    NO_COUNTS, NONE_HAS, SMALL_SIZES, Case, all_counts, boards_by_counts, boards_having, level_counts, marks,
    spread_boards,
)
from markcounts.cells import kinds
from markcounts.errors import NoCounts, NoneSuch


def kinds_among(boards):
    """The kinds of the cells, each cell looked at in each of the boards."""
    found = []
    for row in range(len(boards[0])):
        found.append([])
        for column in range(len(boards[0][0])):
            cells = {board[row][column] for board in boards}
            found[-1].append("some" if cells == {0, 1} else "all" if cells == {1} else "none")
    return found


class AgainstAllBoards(Case):
    def test_small_counts(self):
        for height, width in SMALL_SIZES:
            found = boards_by_counts(height, width)
            for rows, columns in all_counts(height, width):
                if (rows, columns) in found:
                    told = kinds(list(rows), list(columns))
                    self.assertEqual(told, kinds_among(found[rows, columns]), (rows, columns))
                else:
                    self.refused(NoneSuch, kinds, list(rows), list(columns))

    def test_counts_of_larger_boards(self):
        for height, width in ((3, 4), (4, 3), (3, 5), (5, 3), (4, 4)):
            for (rows, columns), boards in list(boards_by_counts(height, width).items())[::7]:
                self.assertEqual(kinds(list(rows), list(columns)), kinds_among(boards), (rows, columns))

    def test_steps_of_five_rows_with_one_mark_moved(self):
        steps = [[1 if column <= row else 0 for column in range(5)] for row in range(5)]
        for row in range(4):
            board = [list(line) for line in steps]
            board[row][row] = 0
            board[row][row + 1] = 1
            rows, columns = marks(board)
            boards = list(boards_having(list(rows), list(columns)))
            self.assertEqual(kinds(list(rows), list(columns)), kinds_among(boards))

    def test_six_by_six(self):
        held = {"all": 0, "none": 0, "some": 0}
        for rows, columns in level_counts(6, 6, 60):
            boards = []
            for board in boards_having(rows, columns):
                boards.append(board)
                if len(boards) > 2000:
                    break
            if 0 < len(boards) <= 2000:
                told = kinds(rows, columns)
                self.assertEqual(told, kinds_among(boards), (rows, columns))
                for kind in held:
                    held[kind] += sum(row.count(kind) for row in told)
        self.assertGreater(min(held.values()), 20)


class Examples(Case):
    def test_some_counts(self):
        self.assertEqual(kinds([0], [0]), [["none"]])
        self.assertEqual(kinds([1], [1]), [["all"]])
        self.assertEqual(kinds([2], [1, 0, 1]), [["all", "none", "all"]])
        self.assertEqual(kinds([0, 1], [1]), [["none"], ["all"]])
        self.assertEqual(kinds([1, 1], [1, 1]), [["some", "some"], ["some", "some"]])
        self.assertEqual(kinds([3, 1, 1], [1, 2, 2]), [["all"] * 3, ["none", "some", "some"], ["none", "some", "some"]])
        self.assertEqual(kinds([2, 1], [2, 1]), [["all", "all"], ["all", "none"]])

    def test_all_nought_and_all_full(self):
        for height in range(1, 7):
            for width in range(1, 7):
                self.assertEqual(kinds([0] * height, [0] * width), [["none"] * width] * height)
                self.assertEqual(kinds([width] * height, [height] * width), [["all"] * width] * height)

    def test_six_of_each(self):
        for number in range(1, 6):
            self.assertEqual(kinds([number] * 6, [number] * 6), [["some"] * 6] * 6)
        steps = [["all" if column < row else "none" for column in range(6)] for row in range(6)]
        self.assertEqual(kinds([0, 1, 2, 3, 4, 5], [5, 4, 3, 2, 1, 0]), steps)

    def test_each_board_keeps_to_the_kinds(self):
        for board in spread_boards(6, 6, 200):
            rows, columns = marks(board)
            for row, line in enumerate(kinds(list(rows), list(columns))):
                for column, kind in enumerate(line):
                    self.assertIn(kind, ("some", "all" if board[row][column] == 1 else "none"))

    def test_the_kind_of_the_answer(self):
        told = kinds([1, 1], [1, 1, 0])
        self.assertEqual([type(told)] + [type(row) for row in told], [list] * 3)
        self.assertEqual({type(kind) for row in told for kind in row}, {str})


class Refusals(Case):
    def test_no_counts(self):
        for rows, columns in NO_COUNTS:
            self.refused(NoCounts, kinds, rows, columns)

    def test_counts_that_no_board_has(self):
        for rows, columns in NONE_HAS:
            self.refused(NoneSuch, kinds, rows, columns)

    def test_no_counts_come_ahead_of_none_such(self):
        for rows, columns in (([3, 0], [0, 0]), ([0, 0], [0, 3]), ([1] * 7, [0] * 2), ([-1, 1], [1, 1])):
            self.refused(NoCounts, kinds, rows, columns)


class OwnLists(Case):
    def test_what_is_handed_in_stays(self):
        for rows, columns in (([1, 2], [1, 1, 1]), ([3] * 6, [3] * 6)) + NONE_HAS + NO_COUNTS:
            self.stays(kinds, rows, columns)

    def test_one_list_handed_in_twice(self):
        twos = [2, 2, 2]
        self.assertEqual(kinds(twos, twos), [["some"] * 3] * 3)
        self.assertEqual(twos, [2, 2, 2])

    def test_no_two_lists_told_are_one(self):
        for rows, columns in (([0] * 6, [0] * 6), ([6] * 6, [6] * 6), ([1, 1], [1, 1]), ([1], [1])):
            self.unshared(kinds(rows, columns), kinds(rows, columns), rows, columns)

    def test_what_is_told_may_be_changed(self):
        told = kinds([1, 1], [1, 1])
        told[0][0] = "all"
        told.pop()
        self.assertEqual(kinds([1, 1], [1, 1]), [["some", "some"], ["some", "some"]])

    def test_nothing_hangs_on_what_was_handed_in(self):
        rows, columns = [1, 1], [1, 1]
        told = kinds(rows, columns)
        rows[0] = 2
        columns[1] = 2
        self.assertEqual(told, [["some", "some"], ["some", "some"]])
        self.assertEqual(kinds(rows, columns), [["all", "all"], ["none", "all"]])


if __name__ == "__main__":
    unittest.main()
