"""Exchanges on boards, and ways of exchanges from a board to another one of the same counts."""

from markcounts.boards import counts, need_board
from markcounts.errors import NoExchange, NotAlike

SLANTS = ((1, 0, 0, 1), (0, 1, 1, 0))
# Of the four cells of an exchange, so many must differ from a board for it to lead nearer to that board.
ENOUGH = 3


def is_on(board, exchange):
    if len(exchange) != 4:
        return False
    rows_fit = 0 <= exchange[0] < exchange[1] < len(board)
    columns_fit = 0 <= exchange[2] < exchange[3] < len(board[0])
    return rows_fit and columns_fit


def places_of(exchange):
    top = exchange[0]
    low = exchange[1]
    left = exchange[2]
    right = exchange[3]
    return [(top, left), (top, right), (low, left), (low, right)]


def is_slanted(board, exchange):
    return tuple([board[row][column] for row, column in places_of(exchange)]) in SLANTS


def turned(board, exchange):
    behind = [list(row) for row in board]
    for row, column in places_of(exchange):
        behind[row][column] = 1 - behind[row][column]
    return behind


def exchanged(board, exchange):
    need_board(board)
    if not is_on(board, exchange) or not is_slanted(board, exchange):
        raise NoExchange("this exchange can't be done on the board")
    return turned(board, exchange)


def pairs(size):
    found = []
    for later in range(size):
        found.extend([(sooner, later) for sooner in range(later)])
    return found


def all_exchanges(height, width):
    found = []
    for top, low in pairs(height):
        found.extend([(top, low, left, right) for left, right in pairs(width)])
    return found


def unlike_cells(one, other, exchange):
    return sum([1 for row, column in places_of(exchange) if one[row][column] != other[row][column]])


def nearer(one, other):
    for exchange in all_exchanges(len(one), len(one[0])):
        if is_slanted(one, exchange) and unlike_cells(one, other, exchange) >= ENOUGH:
            return exchange
    return None


# Each step leaves at least two unlike cells fewer, so the steps are at most half as many as those cells. A step is
# always there, on the one board or on the other: the unlike cells hold rings in which a cell that only the one has
# marked and a cell that only the other has marked take turns along rows and columns. In a shortest ring, three
# cells in a row and the fourth cell across make an exchange on one of the two; else a shorter ring would be there.
def way(one, other):
    if counts(one) != counts(other):
        raise NotAlike("these boards have unlike counts")
    ahead = []
    behind = []
    while one != other:
        exchange = nearer(one, other)
        if exchange is not None:
            ahead.append(exchange)
            one = turned(one, exchange)
        else:
            # An exchange undoes itself, so the steps from the other end are walked back in turn.
            exchange = nearer(other, one)
            behind.append(exchange)
            other = turned(other, exchange)
    return ahead + list(reversed(behind))
