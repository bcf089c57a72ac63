"""The boards that have counts, in their order: how many they are, and their numbers from nought."""

from markcounts.boards import columns_behind, counts, need_counts
from markcounts.errors import NoNumber


def row_choices(width, marks):
    if marks < 0 or marks > width:
        return []
    if width == 0:
        return [[]]
    # The rows come in the order of the boards, so those that begin with 0 stand ahead.
    unmarked = [[0] + rest for rest in row_choices(width - 1, marks)]
    marked = [[1] + rest for rest in row_choices(width - 1, marks - 1)]
    return unmarked + marked


def boards_left(rows, columns, known):
    if min(columns) < 0:
        return 0
    # Behind the last row a filling counts only if no column wants a mark still.
    if len(rows) == 0:
        return 1 if max(columns) == 0 else 0
    # Exchanging columns changes no number of ways, so one answer serves all their orders.
    key = (len(rows), tuple(sorted(columns)))
    if key not in known:
        choices = row_choices(len(columns), rows[0])
        known[key] = sum([boards_left(rows[1:], columns_behind(columns, row), known) for row in choices])
    return known[key]


def many(rows, columns):
    need_counts(rows, columns)
    return boards_left(rows, columns, {})


# The number is nought or more here: one below would be taken for the first choice.
def rows_at(rows, columns, number, known):
    if len(rows) == 0:
        return []
    for row in row_choices(len(columns), rows[0]):
        behind = columns_behind(columns, row)
        ways = boards_left(rows[1:], behind, known)
        if number < ways:
            return [row] + rows_at(rows[1:], behind, number, known)
        number = number - ways
    raise NoNumber("no board has so high a number")


def board_at(rows, columns, number):
    need_counts(rows, columns)
    if number < 0:
        raise NoNumber("no board has a number below nought")
    return rows_at(rows, columns, number, {})


def number_of(board):
    told = counts(board)
    rows = told[0]
    columns = told[1]
    known = {}
    number = 0
    for place, row in enumerate(board):
        for choice in row_choices(len(columns), rows[place]):
            # A lesser row at the first row that differs puts all boards with it ahead of this one.
            if choice < row:
                number = number + boards_left(rows[place + 1:], columns_behind(columns, choice), known)
        columns = columns_behind(columns, row)
    return number
