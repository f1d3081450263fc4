"""Runs: a field opened from a first cell on, each further cell only where it is sure to be clear."""

from stonelay.errors import NoCell
from stonelay.fields import board_at, clears_of
from stonelay.sure import sure
from stonelay.thoughts import thoughts


def run(field, first, way="sure"):
    """How far the field is opened from a first cell on, a tuple (word, row, board).

    Refused with NoCell where the first cell hides a stone, else as what is asked of the boards on the way.
    """
    clear = clears_of(field)
    if first not in clear:
        raise NoCell("the first cell is not clear")
    row = [first]
    board = board_at(field, row)
    while len(row) < len(clear):
        found = found_clear(board, way)
        if found == []:
            return ("stuck", row, board)
        row.extend(found)
        board = board_at(field, row)
    return ("end", row, board)


def found_clear(board, way):
    """The sorted list of the closed cells that are found to be clear, by what is sure or by thoughts."""
    if way == "thoughts":
        return thoughts(board)[1][0]
    return sure(board)[0]
