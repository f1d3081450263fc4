"""Boards: tuples (rows, stones) of a list of texts and the number of all stones."""

from stonelay.errors import NoBoard, NoCount

CLOSED_SIGN = "?"
NO_CELL_SIGN = "#"
BOARD_SIGNS = "?012345678#"
LONGEST_SIDE = 8
MOST_STONES = 64


def board_of(rows, stones):
    """The board of these rows and so many stones, or a refusal with NoBoard, else with NoCount."""
    own_rows = checked_rows(rows, BOARD_SIGNS)
    if not 0 <= stones <= MOST_STONES:
        raise NoCount("a board has from 0 to 64 stones")
    return (own_rows, stones)


def checked_rows(rows, signs):
    """A new list of the rows, or a refusal with NoBoard where they are none of a board with these signs."""
    if not 1 <= len(rows) <= LONGEST_SIDE:
        raise NoBoard("there are one to eight rows")
    for row in rows:
        check_row(row, len(rows[0]), signs)
    return list(rows)


def check_row(row, length, signs):
    """Refuse a row with NoBoard that isn't of that length, or not of these signs."""
    if not 1 <= len(row) <= LONGEST_SIDE:
        raise NoBoard("a row has one to eight signs")
    if len(row) != length:
        raise NoBoard("all rows are of the same length")
    for sign in row:
        if sign not in signs:
            raise NoBoard("a row has a sign that is not known")


def closed(board):
    """The sorted list of the closed cells."""
    return [cell for cell in cells_of(board) if sign_at(board, cell) == CLOSED_SIGN]


def open_cells(board):
    """The sorted list of the open cells."""
    return [cell for cell in cells_of(board) if sign_at(board, cell) != CLOSED_SIGN]


def around(board, cell):
    """The sorted list of the cells next to a cell, also slantwise."""
    rows = board[0]
    found = []
    for row in range(max(cell[0] - 1, 0), min(cell[0] + 2, len(rows))):
        for column in range(max(cell[1] - 1, 0), min(cell[1] + 2, len(rows[row]))):
            if rows[row][column] != NO_CELL_SIGN and (row, column) != cell:
                found.append((row, column))
    return found


def number_at(board, cell):
    """The number that an open cell tells."""
    return int(sign_at(board, cell))


def opened(board, numbers):
    """A new board that tells these numbers, a dict by closed cells, in their places."""
    rows = []
    for row, text in enumerate(board[0]):
        signs = [str(numbers.get((row, column), sign)) for column, sign in enumerate(text)]
        rows.append("".join(signs))
    return (rows, board[1])


def cells_of(board):
    """The sorted list of all cells, closed and open."""
    found = []
    for row, text in enumerate(board[0]):
        found.extend([(row, column) for column, sign in enumerate(text) if sign != NO_CELL_SIGN])
    return found


def sign_at(board, cell):
    """The sign that stands in the place of a cell."""
    return board[0][cell[0]][cell[1]]
