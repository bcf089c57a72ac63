"""A board that has counts, or a wall that tells that none has them."""

from markcounts.boards import columns_behind, need_counts


def fullest_first(numbers):
    return sorted(range(len(numbers)), key=lambda place: -numbers[place])


def fullest_row(wants, marks):
    chosen = fullest_first(wants)[:marks]
    return [1 if place in chosen else 0 for place in range(len(wants))]


# If any board has the counts, one has the marks of its first row in the columns that want most: a mark that
# stands elsewhere can be exchanged into a fuller column. So taking the fullest columns never misses a board.
def filling(rows, columns):
    board = []
    wants = columns
    for marks in rows:
        row = fullest_row(wants, marks)
        wants = columns_behind(wants, row)
        board.append(row)
    # A column that got too many marks stays below nought, so it shows here too.
    return board if all([want == 0 for want in wants]) else None


def are_too_many(numbers, across, some, others):
    wanted = sum([numbers[place] for place in some])
    room = sum([across[place] for place in others]) + len(some) * (len(across) - len(others))
    return wanted > room


def wall_of_side(side, numbers, across):
    order = fullest_first(numbers)
    for size in range(1, len(numbers) + 1):
        some = sorted(order[:size])
        # Each line across gives these the lesser of its count and their size; no choice leaves less room.
        others = [place for place in range(len(across)) if across[place] <= size]
        if are_too_many(numbers, across, some, others):
            return (side, some, others)
    return None


# Rows that want more than all columns, or too many of them for some, show on the side 0; columns that want more
# than all rows show on the side 1 alone.
def wall_of(rows, columns):
    wall = wall_of_side(0, rows, columns)
    return wall_of_side(1, columns, rows) if wall is None else wall


def laid(rows, columns):
    need_counts(rows, columns)
    board = filling(rows, columns)
    if board is None:
        return ("wall", wall_of(rows, columns))
    return ("board", board)
