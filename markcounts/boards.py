"""What a board is, what counts are, and the counts of a board."""

from markcounts.errors import NoBoard, NoCounts

LEAST_SIZE = 1
MOST_SIZE = 6


def is_sized(things):
    return LEAST_SIZE <= len(things) <= MOST_SIZE


def is_row(row, width):
    return len(row) == width and all([cell in (0, 1) for cell in row])


def is_board(board):
    if not is_sized(board) or not is_sized(board[0]):
        return False
    return all([is_row(row, len(board[0])) for row in board])


def are_within(numbers, most):
    return all([0 <= number <= most for number in numbers])


def are_counts(rows, columns):
    if not is_sized(rows) or not is_sized(columns):
        return False
    return are_within(rows, len(columns)) and are_within(columns, len(rows))


def need_board(board):
    if not is_board(board):
        raise NoBoard("this list is no board")


def need_counts(rows, columns):
    if not are_counts(rows, columns):
        raise NoCounts("these lists are no counts")


def marks_in_column(board, column):
    return sum([row[column] for row in board])


def counts(board):
    need_board(board)
    rows = [sum(row) for row in board]
    columns = [marks_in_column(board, column) for column in range(len(board[0]))]
    return (rows, columns)


def columns_behind(columns, row):
    return [wanted - cell for wanted, cell in zip(columns, row)]
