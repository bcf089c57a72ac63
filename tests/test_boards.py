import copy
import unittest

from helper import NO_BOARDS, NO_COUNTS, Case, all_boards, all_counts, marks
from markcounts.boards import are_counts, counts, is_board
from markcounts.errors import NoBoard


class IsBoard(Case):
    def test_every_size_from_one_to_six(self):
        for height in range(9):
            for width in range(9):
                told = is_board([[0] * width for row in range(height)])
                self.assertIs(told, 1 <= height <= 6 and 1 <= width <= 6, (height, width))

    def test_edges_that_are_boards(self):
        for board in ([[0]], [[1]], [[0, 1, 1, 0, 1, 0]], [[1], [0], [1], [1], [0], [0]], [[1] * 6] * 6):
            self.assertIs(is_board(board), True, board)

    def test_every_small_board(self):
        for board in all_boards(2, 3):
            self.assertIs(is_board(board), True, board)

    def test_no_boards(self):
        for board in NO_BOARDS:
            self.assertIs(is_board(board), False, board)

    def test_each_cell_is_looked_at(self):
        for row in range(6):
            for column in range(6):
                for cell in (-100, -1, 2, 3, 100):
                    board = [[1] * 6 for line in range(6)]
                    board[row][column] = cell
                    self.assertIs(is_board(board), False, (row, column, cell))

    def test_each_row_length_is_looked_at(self):
        for row in range(6):
            for width in (0, 1, 4, 6, 7):
                board = [[0] * 5 for line in range(6)]
                board[row] = [0] * width
                self.assertIs(is_board(board), False, (row, width))

    def test_what_is_handed_in_stays(self):
        for board in NO_BOARDS + ([[0, 1], [1, 1]],):
            before = copy.deepcopy(board)
            is_board(board)
            self.assertEqual(board, before)


class AreCounts(Case):
    def test_every_size_from_one_to_six(self):
        for height in range(9):
            for width in range(9):
                told = are_counts([0] * height, [0] * width)
                self.assertIs(told, 1 <= height <= 6 and 1 <= width <= 6, (height, width))

    def test_all_small_ones(self):
        for height, width in ((1, 1), (1, 3), (3, 1), (2, 3)):
            for rows, columns in all_counts(height, width):
                self.assertIs(are_counts(list(rows), list(columns)), True, (rows, columns))

    def test_edges_that_are_counts(self):
        edges = (
            ([0], [0]),
            ([1], [1]),
            ([6], [1] * 6),
            ([1] * 6, [6]),
            ([6] * 6, [6] * 6),
            ([0] * 6, [0] * 6),
            ([6, 0], [2, 0, 2, 0, 2, 0]),
        )
        for rows, columns in edges:
            self.assertIs(are_counts(rows, columns), True, (rows, columns))

    def test_counts_that_no_board_has_are_counts(self):
        for rows, columns in (([1], [0]), ([0, 0], [2, 2]), ([2, 2, 0], [3, 1, 0])):
            self.assertIs(are_counts(rows, columns), True, (rows, columns))

    def test_no_counts(self):
        for rows, columns in NO_COUNTS:
            self.assertIs(are_counts(rows, columns), False, (rows, columns))

    def test_each_number_is_held_to_the_other_list(self):
        for place in range(5):
            for number in range(-3, 10):
                rows = [1] * 5
                rows[place] = number
                self.assertIs(are_counts(rows, [1] * 3), 0 <= number <= 3, rows)
                self.assertIs(are_counts([1] * 3, rows), 0 <= number <= 3, rows)

    def test_what_is_handed_in_stays(self):
        for rows, columns in NO_COUNTS + (([2, 1], [1, 2]),):
            before = copy.deepcopy((rows, columns))
            are_counts(rows, columns)
            self.assertEqual((rows, columns), before)


class Counts(Case):
    def test_some_boards(self):
        self.assertEqual(counts([[0]]), ([0], [0]))
        self.assertEqual(counts([[1]]), ([1], [1]))
        self.assertEqual(counts([[1, 0, 1]]), ([2], [1, 0, 1]))
        self.assertEqual(counts([[1], [0], [1]]), ([1, 0, 1], [2]))
        self.assertEqual(counts([[1, 1, 0], [0, 1, 0]]), ([2, 1], [1, 2, 0]))
        self.assertEqual(counts([[1] * 6] * 6), ([6] * 6, [6] * 6))
        steps = [[1 if column < row else 0 for column in range(6)] for row in range(6)]
        self.assertEqual(counts(steps), ([0, 1, 2, 3, 4, 5], [5, 4, 3, 2, 1, 0]))

    def test_every_small_board(self):
        for height, width in ((1, 4), (4, 1), (2, 3), (3, 2), (3, 3)):
            for board in all_boards(height, width):
                rows, columns = marks(board)
                self.assertEqual(counts(board), (list(rows), list(columns)))

    def test_the_kind_of_the_answer(self):
        told = counts([[1, 0], [1, 1]])
        self.assertIs(type(told), tuple)
        self.assertEqual([type(part) for part in told], [list, list])
        self.assertEqual({type(number) for part in told for number in part}, {int})

    def test_no_boards_are_refused(self):
        for board in NO_BOARDS:
            self.refused(NoBoard, counts, board)

    def test_what_is_handed_in_stays(self):
        for board in ([[1, 0], [1, 1]], [[0, 1, 1]], [[0, 1]] * 3):
            before = copy.deepcopy(board)
            counts(board)
            self.assertEqual(board, before)

    def test_what_is_told_is_the_askers_own(self):
        board = [[1, 0], [0, 1]]
        told = counts(board)
        self.assertIsNot(told[0], told[1])
        told[0].append(9)
        self.assertEqual(told[1], [1, 1])
        told[1][0] = 9
        self.assertEqual(board, [[1, 0], [0, 1]])
        self.assertEqual(counts(board), ([1, 1], [1, 1]))

    def test_nothing_hangs_on_what_was_handed_in(self):
        board = [[1, 0], [0, 1]]
        told = counts(board)
        board[0][1] = 1
        board.append([1, 1])
        self.assertEqual(told, ([1, 1], [1, 1]))
        self.assertEqual(counts(board), ([2, 1, 2], [2, 3]))


if __name__ == "__main__":
    unittest.main()
