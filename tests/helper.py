"""What the tests share: a case that knows refusals, and boards gone through one by one."""

import copy
import itertools
import random
import unittest

from markcounts import errors

KINDS = (
    errors.NoBoard,
    errors.NoCounts,
    errors.NoNumber,
    errors.NoneSuch,
    errors.NoExchange,
    errors.NotAlike,
)


class Case(unittest.TestCase):
    def refused(self, kind, ask, *given):
        with self.assertRaises(errors.MarkError) as caught:
            ask(*given)
        error = caught.exception
        self.assertIsInstance(error, ValueError)
        self.assertEqual([k for k in KINDS if isinstance(error, k)], [kind])
        for word in error.args:
            self.assertIsInstance(word, str, "an error keeps nothing that was handed in")

    def unshared(self, *told):
        lists = [one for thing in told for one in lists_within(thing)]
        self.assertEqual(len({id(one) for one in lists}), len(lists), told)

    def stays(self, ask, *given):
        """What is handed in is the same behind the call, whether it answers or refuses."""
        before = copy.deepcopy(given)
        try:
            ask(*given)
        except errors.MarkError:
            pass
        self.assertEqual(given, before)


NO_BOARDS = (
    [],
    [[]],
    [[], []],
    [[1], []],
    [[], [1]],
    [[0, 1]] * 7,
    [[0, 1]] * 8,
    [[0] * 7],
    [[0] * 8],
    [[0] * 7] * 7,
    [[1] * 7] * 6,
    [[0, 1], [0]],
    [[0], [0, 1]],
    [[0, 1], [1, 0], [1, 0, 0]],
    [[0] * 6, [0] * 7],
    [[2]],
    [[-1]],
    [[100]],
    [[-100]],
    [[0, 1], [1, 2]],
    [[0, 1], [-1, 1]],
    [[3, 0], [0, 0]],
)

NO_COUNTS = (
    ([], []),
    ([], [0]),
    ([0], []),
    ([0] * 7, [0]),
    ([0], [0] * 7),
    ([0] * 7, [0] * 7),
    ([0] * 8, [0] * 2),
    ([1] * 6, [1] * 7),
    ([1] * 7, [1] * 6),
    ([-1], [0]),
    ([0], [-1]),
    ([1, -1], [0, 0]),
    ([0, 0], [1, -1]),
    ([2], [1]),
    ([1], [2]),
    ([3, 0], [1, 1]),
    ([1, 1], [0, 3]),
    ([3, 3], [2, 2, 3]),
    ([7, 0], [1] * 6),
    ([100], [1]),
    ([1], [100]),
    ([-100], [1]),
    ([1], [-100]),
)

# Counts that are well formed, but that no board has.
NONE_HAS = (
    ([1], [0]),
    ([0], [1]),
    ([1, 0], [0, 0]),
    ([2, 2, 0], [3, 1, 0]),
    ([3, 1, 0], [2, 2, 0]),
    ([6, 0, 0, 0, 0, 0], [6, 0, 0, 0, 0, 0]),
    ([6, 6, 6, 0, 0, 0], [4, 4, 4, 2, 2, 2]),
    ([6] * 6, [0] * 6),
    ([0] * 6, [6] * 6),
)

SMALL_SIZES = ((1, 1), (1, 2), (2, 1), (2, 2), (1, 6), (6, 1), (2, 3), (3, 2), (3, 3), (2, 4), (4, 2))


def all_boards(height, width):
    """Every board of this size, in the order that the document tells."""
    for cells in itertools.product((0, 1), repeat=height * width):
        yield [list(cells[row * width:(row + 1) * width]) for row in range(height)]


def marks(board):
    """The counts of a board, each cell looked at by itself."""
    rows = [0] * len(board)
    columns = [0] * len(board[0])
    for row in range(len(board)):
        for column in range(len(board[0])):
            if board[row][column] == 1:
                rows[row] += 1
                columns[column] += 1
    return tuple(rows), tuple(columns)


def boards_by_counts(height, width):
    """A dict: counts, and all boards that have them in their order."""
    found = {}
    for board in all_boards(height, width):
        found.setdefault(marks(board), []).append(board)
    return found


def all_counts(height, width):
    """All well-formed counts for this size, those that no board has among them."""
    for rows in itertools.product(range(width + 1), repeat=height):
        for columns in itertools.product(range(height + 1), repeat=width):
            yield rows, columns


def boards_having(rows, columns):
    """All boards that have the counts, in order, found by trying row after row."""
    if not rows:
        if not any(columns):
            yield []
        return
    lines = [line for line in itertools.product((0, 1), repeat=len(columns)) if sum(line) == rows[0]]
    for line in lines:
        left = [want - cell for want, cell in zip(columns, line)]
        if min(left) >= 0 and max(left) < len(rows):
            for rest in boards_having(rows[1:], left):
                yield [list(line)] + rest


def lists_within(thing):
    """Every list in what is told, itself among them, each as often as it stands there."""
    if not isinstance(thing, (list, tuple)):
        return []
    inner = [one for part in thing for one in lists_within(part)]
    return [thing] + inner if isinstance(thing, list) else inner


def spread_boards(height, width, how_many):
    """Boards of one size from all over, the same ones each time."""
    draw = random.Random(how_many)
    for number in range(how_many):
        yield [[draw.randrange(2) for column in range(width)] for row in range(height)]


def spread_counts(height, width, how_many):
    """Counts of one size from all over, the same ones each time."""
    draw = random.Random(how_many)
    for number in range(how_many):
        yield [draw.randrange(width + 1) for row in range(height)], [draw.randrange(height + 1) for row in range(width)]


def level_counts(height, width, how_many):
    """Counts whose rows want as much together as the columns do, so that some have boards and some have none."""
    for rows, columns in spread_counts(height, width, how_many):
        while sum(rows) > sum(columns):
            rows[rows.index(max(rows))] -= 1
        while sum(columns) > sum(rows):
            columns[columns.index(max(columns))] -= 1
        yield rows, columns


def unlike(one, other):
    """In how many cells two boards of one size differ."""
    return sum(cell != there for row, line in zip(one, other) for cell, there in zip(row, line))
