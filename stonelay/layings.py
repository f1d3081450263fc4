"""Layings: sorted lists of closed cells, as many as there are stones, that fit every number told."""

from stonelay.boards import around, closed, number_at, open_cells
from stonelay.errors import TooGreat

MOST_CLOSED = 12


def is_laying(board, cells):
    """Whether a list of cells is a laying of the board."""
    return why_none(board, cells) is None


def why_none(board, cells):
    """The first reason why a list of cells is no laying of the board, or None where it is one."""
    hidden = closed(board)
    for cell in cells:
        if cell not in hidden:
            return ("cell", cell)
    for place in range(1, len(cells)):
        if cells[place] <= cells[place - 1]:
            return ("order", cells[place])
    if len(cells) != board[1]:
        return ("many", len(cells))
    return wrong_number(numbers_told(board), cells)


def layings(board):
    """The sorted list of all layings, or a refusal with TooGreat beyond twelve closed cells."""
    hidden = closed(board)
    if len(hidden) > MOST_CLOSED:
        raise TooGreat("layings are told of at most twelve closed cells")
    told = numbers_told(board)
    return [pick for pick in picks(hidden, board[1]) if wrong_number(told, pick) is None]


def numbers_told(board):
    """The open cells, sorted, each as a tuple with its number and the cells around it."""
    # Many lists are held against the same numbers, so what lies around is looked up once.
    return [(cell, number_at(board, cell), around(board, cell)) for cell in open_cells(board)]


def wrong_number(told, cells):
    """The first told number that the cells don't fit, as a reason, or None where they fit all."""
    for cell, number, near in told:
        lying = len([place for place in near if place in cells])
        if lying != number:
            return ("number", cell, lying)
    return None


def picks(cells, size):
    """The sorted list of all choices of so many of the cells, which are sorted, each as a sorted list."""
    found = [[]]
    for cell in cells:
        found = found + [pick + [cell] for pick in found if len(pick) < size]
    return sorted([pick for pick in found if len(pick) == size])
