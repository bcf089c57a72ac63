import copy
import itertools
import unittest

from helper import NO_BOARDS, Case, all_boards, boards_by_counts, boards_having, marks, spread_boards, unlike
from markcounts.errors import NoBoard, NoExchange, NotAlike
from markcounts.exchanges import exchanged, way
from markcounts.numbers import board_at, many

TWO = [[1, 0], [0, 1]]
OTHER_TWO = [[0, 1], [1, 0]]
NUMBERS_OUT = (-100, -7, -6, -3, -2, -1, 100)


def ordered(height, width):
    """All exchanges that tell rows and columns of such a board, in order."""
    for top, low in itertools.combinations(range(height), 2):
        for left, right in itertools.combinations(range(width), 2):
            yield top, low, left, right


def behind(board, exchange):
    """The board behind an exchange, or None where it can't be done; each of the four cells by itself."""
    top, low, left, right = exchange
    marked = {(row, column) for row in (top, low) for column in (left, right) if board[row][column] == 1}
    falling = {(top, left), (low, right)}
    rising = {(top, right), (low, left)}
    if marked not in (falling, rising):
        return None
    told = copy.deepcopy(board)
    for row, column in falling | rising:
        told[row][column] = 0 if (row, column) in marked else 1
    return told


class Exchanged(Case):
    def hold(self, board, exchange):
        wanted = behind(board, exchange)
        if wanted is None:
            self.refused(NoExchange, exchanged, board, exchange)
            return 0
        told = exchanged(board, exchange)
        self.assertEqual(told, wanted)
        self.assertEqual(marks(told), marks(board))
        self.assertEqual(exchanged(told, exchange), board)
        return 1

    def test_two_by_two(self):
        for board in all_boards(2, 2):
            self.assertEqual(self.hold(board, (0, 1, 0, 1)), 1 if board in (TWO, OTHER_TWO) else 0)
        self.assertEqual(exchanged(TWO, (0, 1, 0, 1)), OTHER_TWO)
        self.assertEqual(exchanged(OTHER_TWO, (0, 1, 0, 1)), TWO)

    def test_only_the_four_cells_change(self):
        board = [[1, 1, 0, 0], [0, 1, 1, 1], [0, 0, 1, 0]]
        self.assertEqual(exchanged(board, (0, 2, 1, 2)), [[1, 0, 1, 0], [0, 1, 1, 1], [0, 1, 0, 0]])
        self.assertEqual(exchanged(board, (0, 1, 0, 3)), [[0, 1, 0, 1], [1, 1, 1, 0], [0, 0, 1, 0]])

    def test_small_boards(self):
        for height, width in ((2, 3), (3, 2), (3, 3), (2, 5), (5, 2)):
            for board in all_boards(height, width):
                for exchange in ordered(height, width):
                    self.hold(board, exchange)

    def test_six_by_six(self):
        done = 0
        for board in spread_boards(6, 6, 25):
            for exchange in ordered(6, 6):
                done += self.hold(board, exchange)
        self.assertGreater(done, 300)

    def test_far_corners_of_six_by_six(self):
        board = [[0] * 6 for row in range(6)]
        board[0][0] = board[5][5] = 1
        wanted = [[0] * 6 for row in range(6)]
        wanted[0][5] = wanted[5][0] = 1
        self.assertEqual(exchanged(board, (0, 5, 0, 5)), wanted)

    def test_all_nought_and_all_full(self):
        for cell in (0, 1):
            for exchange in ordered(6, 6):
                self.refused(NoExchange, exchanged, [[cell] * 6] * 6, exchange)

    def test_the_kind_of_the_answer(self):
        told = exchanged(TWO, (0, 1, 0, 1))
        self.assertEqual([type(told)] + [type(row) for row in told], [list] * 3)
        self.assertEqual({type(cell) for row in told for cell in row}, {int})


class NoExchanges(Case):
    def test_every_telling_of_four_numbers(self):
        for board in (TWO, [[1, 0, 1], [0, 1, 0]], [[1, 0], [0, 1], [1, 0]]):
            fit = list(ordered(len(board), len(board[0])))
            for exchange in itertools.product(range(-3, 5), repeat=4):
                if exchange not in fit:
                    self.refused(NoExchange, exchanged, board, exchange)

    def test_out_of_order_or_equal(self):
        for exchange in ((1, 0, 0, 1), (0, 1, 1, 0), (1, 0, 1, 0)):
            self.refused(NoExchange, exchanged, TWO, exchange)
        for exchange in ((0, 0, 0, 1), (1, 1, 0, 1), (0, 1, 0, 0), (0, 1, 1, 1)):
            self.refused(NoExchange, exchanged, TWO, exchange)

    def test_numbers_out_of_the_board(self):
        # Marked so that a number that counts from the end would find cells that could be exchanged.
        board = [[(row + column) % 2 for column in range(6)] for row in range(6)]
        for place in range(4):
            for number in NUMBERS_OUT + (6, 7, 8):
                for fit in ((0, 1, 0, 1), (0, 5, 0, 5), (2, 3, 2, 3)):
                    exchange = fit[:place] + (number,) + fit[place + 1:]
                    self.refused(NoExchange, exchanged, board, exchange)

    def test_just_beyond_boards_that_are_not_square(self):
        wide = [[1, 0, 1], [0, 1, 0]]
        tall = [[1, 0], [0, 1], [1, 0]]
        self.refused(NoExchange, exchanged, wide, (0, 2, 0, 1))
        self.refused(NoExchange, exchanged, wide, (1, 2, 0, 1))
        self.refused(NoExchange, exchanged, wide, (0, 1, 0, 3))
        self.refused(NoExchange, exchanged, tall, (0, 1, 0, 2))
        self.refused(NoExchange, exchanged, tall, (0, 1, 1, 2))
        self.refused(NoExchange, exchanged, tall, (0, 3, 0, 1))

    def test_one_row_or_one_column_has_none(self):
        for board in ([[1]], [[1, 0]], [[1], [0]], [[1, 0, 0, 1, 0, 1]], [[0]] * 6):
            for exchange in itertools.product(range(-1, 3), repeat=4):
                self.refused(NoExchange, exchanged, board, exchange)

    def test_more_or_fewer_than_four_numbers(self):
        for exchange in ((), (0, 1), (0, 1, 0), (0, 1, 0, 1, 0), (0, 1, 0, 1, 0, 1)):
            self.refused(NoExchange, exchanged, TWO, exchange)

    def test_no_boards_come_first(self):
        for board in NO_BOARDS:
            for exchange in ((0, 1, 0, 1), (1, 0, 0, 1), (-1, 100, 0, 1)):
                self.refused(NoBoard, exchanged, board, exchange)


class Way(Case):
    def hold(self, one, other):
        told = way(one, other)
        self.assertIs(type(told), list)
        self.assertLessEqual(2 * len(told), unlike(one, other), (one, other, told))
        board = one
        for exchange in told:
            self.assertIs(type(exchange), tuple)
            self.assertEqual([type(number) for number in exchange], [int] * 4)
            self.assertIn(exchange, list(ordered(len(one), len(one[0]))))
            board = behind(board, exchange)
            self.assertIsNotNone(board, (one, other, told))
        self.assertEqual(board, other)

    def test_all_pairs_of_small_boards(self):
        for height, width in ((1, 1), (1, 4), (4, 1), (2, 2), (2, 3), (3, 2), (3, 3), (2, 4), (4, 2)):
            for boards in boards_by_counts(height, width).values():
                for one, other in itertools.product(boards, repeat=2):
                    self.hold(one, other)

    def test_from_one_board_to_all_of_its_counts(self):
        for rows, columns in (([1] * 5, [1] * 5), ([2] * 4, [2] * 4), ([1, 5, 3, 0, 2, 4], [3, 2, 4, 1, 3, 2])):
            boards = list(boards_having(rows, columns))
            for board in boards:
                self.hold(boards[0], board)
                self.hold(board, boards[len(boards) // 2])

    def test_six_by_six(self):
        for rows, columns in (([3] * 6, [3] * 6), ([1] * 6, [1] * 6), ([2, 3, 4, 2, 3, 4], [3] * 6)):
            last = many(rows, columns) - 1
            boards = [board_at(rows, columns, last * part // 12) for part in range(13)]
            for one, other in itertools.product(boards, repeat=2):
                self.hold(one, other)

    def test_boards_that_differ_everywhere(self):
        one = [[(row + column) % 2 for column in range(6)] for row in range(6)]
        other = [[1 - cell for cell in row] for row in one]
        self.hold(one, other)
        self.hold(other, one)

    def test_rings_through_many_rows(self):
        # The cells that differ are one ring alone, and the cells across it are all marked or all not.
        for size in range(2, 7):
            for across in (0, 1):
                one = [[across] * size for row in range(size)]
                for row in range(size):
                    one[row][row] = 1
                    one[row][(row + 1) % size] = 0
                other = [list(row) for row in one]
                for row in range(size):
                    other[row][row] = 0
                    other[row][(row + 1) % size] = 1
                self.hold(one, other)
                self.hold(other, one)

    def test_rings_that_must_be_walked_from_the_far_end(self):
        # No exchange on the first board has three of its cells on the ring, so a way that goes nearer with each
        # step can't begin there; the cells that are neither on the ring nor beside it are filled in every way.
        for size in (4, 5, 6):
            free = [(row, (row + ahead) % size) for row in range(size) for ahead in range(3, size - 1)]
            for cells in itertools.product((0, 1), repeat=len(free)):
                one = [[0] * size for row in range(size)]
                for (row, column), cell in zip(free, cells):
                    one[row][column] = cell
                for row in range(size):
                    one[row][row - 1] = 1
                    one[row][row] = 1
                other = [list(row) for row in one]
                for row in range(size):
                    other[row][row] = 0
                    other[row][(row + 1) % size] = 1
                self.hold(one, other)

    def test_none_from_a_board_to_itself(self):
        for board in list(all_boards(2, 3)) + list(spread_boards(6, 6, 40)):
            self.assertEqual(way(board, board), [])
            self.assertEqual(way(board, copy.deepcopy(board)), [])

    def test_one_exchange_away(self):
        self.assertEqual(way(TWO, OTHER_TWO), [(0, 1, 0, 1)])
        board = [[1, 1, 0, 0], [0, 1, 1, 1], [0, 0, 1, 0]]
        self.assertEqual(way(board, [[1, 0, 1, 0], [0, 1, 1, 1], [0, 1, 0, 0]]), [(0, 2, 1, 2)])


class WayRefusals(Case):
    def test_boards_of_unlike_counts(self):
        unlike_pairs = (
            ([[0]], [[1]]),
            (TWO, [[1, 0], [1, 0]]),
            (TWO, [[1, 1], [0, 0]]),
            ([[1, 1, 0], [0, 0, 1]], [[1, 0, 0], [0, 1, 1]]),
            ([[1, 0]], [[0, 1]]),
            ([[1], [0]], [[0], [1]]),
            ([[0] * 6] * 6, [[1] * 6] * 6),
        )
        for one, other in unlike_pairs:
            self.refused(NotAlike, way, one, other)
            self.refused(NotAlike, way, other, one)

    def test_boards_of_unlike_size(self):
        sizes = list(itertools.product((1, 2, 5, 6), repeat=2))
        for (height, width), (tall, wide) in itertools.permutations(sizes, 2):
            self.refused(NotAlike, way, [[0] * width] * height, [[0] * wide] * tall)

    def test_every_small_pair_of_unlike_counts(self):
        for one, other in itertools.product(all_boards(2, 3), repeat=2):
            if marks(one) != marks(other):
                self.refused(NotAlike, way, one, other)

    def test_no_boards_come_first(self):
        for board in NO_BOARDS:
            self.refused(NoBoard, way, board, TWO)
            self.refused(NoBoard, way, TWO, board)
            self.refused(NoBoard, way, board, board)
            self.refused(NoBoard, way, board, copy.deepcopy(board))
        for one, other in itertools.product(NO_BOARDS, repeat=2):
            self.refused(NoBoard, way, one, other)


class OwnLists(Case):
    def test_what_is_handed_in_stays(self):
        for board in (TWO, [[1, 0, 1], [0, 1, 1]]) + NO_BOARDS:
            for exchange in ((0, 1, 0, 1), (0, 1, 1, 2), (1, 0, 0, 1)):
                self.stays(exchanged, board, exchange)
            self.stays(way, board, OTHER_TWO)
            self.stays(way, TWO, board)
        self.stays(way, board_at([3] * 6, [3] * 6, 0), board_at([3] * 6, [3] * 6, 297199))

    def test_one_row_handed_in_twice(self):
        row = [1, 0]
        board = [row, [0, 1], row]
        self.assertEqual(exchanged(board, (0, 1, 0, 1)), [[0, 1], [1, 0], [1, 0]])
        self.assertEqual(way(board, [[0, 1], [1, 0], row]), [(0, 1, 0, 1)])
        self.assertEqual(row, [1, 0])

    def test_no_two_lists_told_are_one(self):
        row = [1, 0, 0]
        board = [row, [0, 1, 0], row]
        self.unshared(exchanged(board, (0, 1, 0, 1)), exchanged(board, (0, 1, 0, 1)), board[:2])
        self.unshared(way(TWO, OTHER_TWO), way(TWO, OTHER_TWO), way(TWO, TWO), way(TWO, TWO), TWO, OTHER_TWO)

    def test_what_is_told_may_be_changed(self):
        board = [[1, 0], [0, 1], [1, 1]]
        told = exchanged(board, (0, 1, 0, 1))
        told[2][0] = 9
        told[0].append(9)
        self.assertEqual(board, [[1, 0], [0, 1], [1, 1]])
        self.assertEqual(exchanged(board, (0, 1, 0, 1)), [[0, 1], [1, 0], [1, 1]])
        for one, other in ((TWO, OTHER_TWO), (TWO, TWO)):
            told = way(one, other)
            wanted = list(told)
            told.append((9, 9, 9, 9))
            self.assertEqual(way(one, other), wanted)

    def test_nothing_hangs_on_what_was_handed_in(self):
        one, other = copy.deepcopy(TWO), copy.deepcopy(OTHER_TWO)
        told = exchanged(one, (0, 1, 0, 1))
        steps = way(one, other)
        one[0][0] = 0
        other.append([1, 1])
        self.assertEqual(told, OTHER_TWO)
        self.assertEqual(steps, [(0, 1, 0, 1)])
        self.refused(NotAlike, way, one, other)
        self.refused(NoExchange, exchanged, one, (0, 1, 0, 1))


if __name__ == "__main__":
    unittest.main()
