import unittest

from helper import (
    NO_COUNTS, NONE_HAS, SMALL_SIZES, Case, all_counts, boards_by_counts, level_counts, marks, spread_boards,
    spread_counts,
)
from markcounts.errors import NoCounts
from markcounts.laying import laid

EDGES_WITH_BOARDS = (
    ([0], [0]),
    ([1], [1]),
    ([0], [0] * 6),
    ([6], [1] * 6),
    ([3], [1, 0, 1, 0, 0, 1]),
    ([0] * 6, [0]),
    ([1] * 6, [6]),
    ([0, 1, 1, 0, 1, 0], [3]),
    ([0] * 6, [0] * 6),
    ([6] * 6, [6] * 6),
    ([3] * 6, [3] * 6),
    ([1] * 6, [1] * 6),
    ([0, 1, 2, 3, 4, 5], [5, 4, 3, 2, 1, 0]),
    ([1, 5, 3, 0, 2, 4], [3, 2, 4, 1, 3, 2]),
    ([6, 0, 6, 0, 6, 0], [3] * 6),
)

EDGES_WITH_WALLS = NONE_HAS + (
    ([1], [1, 1]),
    ([1, 1], [1]),
    ([2], [1, 0, 0]),
    ([0, 0], [2, 2]),
    ([0, 3, 1], [2, 0, 2]),
    ([6] * 6, [6] * 5 + [5]),
    ([6] * 5 + [5], [6] * 6),
)


class LaidCase(Case):
    def hold(self, rows, columns):
        """What is told of these counts shows by itself that it is right; which of the two it is comes back."""
        told = laid(list(rows), list(columns))
        self.assertIs(type(told), tuple)
        self.assertEqual(len(told), 2)
        self.assertIn(told[0], ("board", "wall"))
        if told[0] == "board":
            self.hold_board(rows, columns, told[1])
        else:
            self.hold_wall(rows, columns, told[1])
        return told[0]

    def hold_board(self, rows, columns, board):
        self.assertIs(type(board), list)
        self.assertEqual(len(board), len(rows))
        for row in board:
            self.assertIs(type(row), list)
            self.assertEqual(len(row), len(columns))
            self.assertLessEqual({(type(cell), cell) for cell in row}, {(int, 0), (int, 1)})
        self.assertEqual(marks(board), (tuple(rows), tuple(columns)))

    def hold_wall(self, rows, columns, wall):
        self.assertIs(type(wall), tuple)
        side, some, others = wall
        self.assertIs(type(side), int)
        self.assertIn(side, (0, 1))
        near, far = (rows, columns) if side == 0 else (columns, rows)
        self.hold_places(some, len(near))
        self.hold_places(others, len(far))
        room = 0
        for place, number in enumerate(far):
            room += number if place in others else len(some)
        self.assertGreater(sum(near[place] for place in some), room, (rows, columns, wall))

    def hold_places(self, places, size):
        self.assertIs(type(places), list)
        self.assertLessEqual({type(place) for place in places}, {int})
        self.assertEqual(places, [place for place in range(size) if place in places])


class SmallCounts(LaidCase):
    def test_a_board_just_where_there_is_one(self):
        for height, width in SMALL_SIZES:
            found = boards_by_counts(height, width)
            for rows, columns in all_counts(height, width):
                wanted = "board" if (rows, columns) in found else "wall"
                self.assertEqual(self.hold(rows, columns), wanted, (rows, columns))

    def test_a_board_for_each_that_has_one(self):
        for rows, columns in boards_by_counts(3, 5):
            self.assertEqual(self.hold(rows, columns), "board", (rows, columns))


class Edges(LaidCase):
    def test_boards(self):
        for rows, columns in EDGES_WITH_BOARDS:
            self.assertEqual(self.hold(rows, columns), "board", (rows, columns))

    def test_walls(self):
        for rows, columns in EDGES_WITH_WALLS:
            self.assertEqual(self.hold(rows, columns), "wall", (rows, columns))

    def test_boards_that_stand_alone(self):
        self.assertEqual(laid([0], [0]), ("board", [[0]]))
        self.assertEqual(laid([1], [1]), ("board", [[1]]))
        self.assertEqual(laid([2], [1, 0, 1]), ("board", [[1, 0, 1]]))
        self.assertEqual(laid([1, 0, 1], [2]), ("board", [[1], [0], [1]]))
        self.assertEqual(laid([2, 0, 1], [2, 1]), ("board", [[1, 1], [0, 0], [1, 0]]))
        for size in range(1, 7):
            self.assertEqual(laid([0] * size, [0] * 6), ("board", [[0] * 6] * size))
            self.assertEqual(laid([6] * size, [size] * 6), ("board", [[1] * 6] * size))

    def test_walls_that_stand_alone(self):
        self.assertEqual(laid([1], [0]), ("wall", (0, [0], [0])))
        self.assertEqual(laid([0], [1]), ("wall", (1, [0], [0])))

    def test_walls_of_each_side(self):
        for size in range(1, 7):
            for number in range(1, size + 1):
                # No row wants a mark, so no rows want too many; and so for columns.
                self.assertEqual(laid([number] * 2, [0] * size)[1][0], 0)
                self.hold([number] * 2, [0] * size)
                self.assertEqual(laid([0] * size, [number] * 2)[1][0], 1)
                self.hold([0] * size, [number] * 2)


class LargeCounts(LaidCase):
    def test_counts_of_boards(self):
        for height, width in ((6, 6), (6, 5), (5, 6), (4, 6), (6, 4), (5, 5)):
            for board in spread_boards(height, width, 300):
                rows, columns = marks(board)
                self.assertEqual(self.hold(rows, columns), "board", board)

    def test_counts_from_all_over(self):
        for height, width in ((6, 6), (6, 5), (5, 6), (6, 3), (3, 6)):
            told = [self.hold(rows, columns) for rows, columns in spread_counts(height, width, 600)]
            self.assertIn("wall", told)

    def test_counts_that_want_as_much_on_both_sides(self):
        for height, width in ((6, 6), (6, 5), (5, 6), (6, 3), (3, 6)):
            told = [self.hold(rows, columns) for rows, columns in level_counts(height, width, 600)]
            self.assertGreater(told.count("wall"), 50)
            self.assertGreater(told.count("board"), 50)


class Refusals(Case):
    def test_no_counts(self):
        for rows, columns in NO_COUNTS:
            self.refused(NoCounts, laid, rows, columns)


class OwnLists(Case):
    def test_what_is_handed_in_stays(self):
        for rows, columns in EDGES_WITH_BOARDS + EDGES_WITH_WALLS + NO_COUNTS:
            self.stays(laid, rows, columns)

    def test_no_two_lists_told_are_one(self):
        for rows, columns in EDGES_WITH_BOARDS + EDGES_WITH_WALLS:
            self.unshared(laid(rows, columns), laid(rows, columns), rows, columns)

    def test_one_list_handed_in_twice(self):
        twos = [2, 2, 2]
        told = laid(twos, twos)
        self.assertEqual(told[0], "board")
        self.assertEqual(marks(told[1]), ((2, 2, 2), (2, 2, 2)))
        self.assertEqual(twos, [2, 2, 2])

    def test_what_is_told_may_be_changed(self):
        for rows, columns, first in (([2, 0], [1, 1], 0), ([1], [0], 1), ([0], [1], 1)):
            before = laid(rows, columns)
            wanted = repr(before)
            before[1][first][0] = 9
            before[1][first].append(9)
            self.assertEqual(repr(laid(rows, columns)), wanted)

    def test_nothing_hangs_on_what_was_handed_in(self):
        for rows, columns in (([2, 0], [1, 1]), ([1, 1], [0, 0])):
            told = laid(rows, columns)
            wanted = repr(told)
            rows[0] = 0
            columns.append(1)
            self.assertEqual(repr(told), wanted)
        self.assertEqual(laid([1], [1]), ("board", [[1]]))


if __name__ == "__main__":
    unittest.main()
