"""The kinds of the cells by counts: marked in all boards that have them, in none, or in some."""

from markcounts.boards import columns_behind, need_counts
from markcounts.errors import NoneSuch
from markcounts.laying import filling, fullest_row


# A want above all others puts the mark there first, one below all others puts it there last.
def wants_led(columns, column, cell):
    wants = list(columns)
    wants[column] = max(columns) + 1 if cell == 1 else min(columns) - 1
    return wants


def can_be(rows, columns, row, column, cell):
    line = fullest_row(wants_led(columns, column, cell), rows[row])
    if line[column] != cell:
        return False
    # The rows may be filled in any order, so this one goes ahead of the others.
    others = rows[:row] + rows[row + 1:]
    return filling(others, columns_behind(columns, line)) is not None


def kind_of(rows, columns, row, column):
    if not can_be(rows, columns, row, column, 0):
        return "all"
    if not can_be(rows, columns, row, column, 1):
        return "none"
    return "some"


def kinds_in_row(rows, columns, row):
    return [kind_of(rows, columns, row, column) for column in range(len(columns))]


def kinds(rows, columns):
    need_counts(rows, columns)
    if filling(rows, columns) is None:
        raise NoneSuch("no board has these counts")
    return [kinds_in_row(rows, columns, row) for row in range(len(rows))]
