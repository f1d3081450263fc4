"""Chances: where one must guess, how many layings come through the next openings, and a plan for that."""

from stonelay.boards import around, closed, opened
from stonelay.errors import NoLaying, TooGreat
from stonelay.fractions import fraction
from stonelay.layings import layings

MOST_CLOSED = 8
MOST_DEPTH = 3


def chances(board, depth):
    """The chances of all closed cells, a dict by these, or a refusal with TooGreat, else with NoLaying."""
    found = known_layings(board, depth)
    cells = closed(board)
    return dict([(cell, fraction(through_by(board, found, cells, depth, cell), len(found))) for cell in cells])


def best(board, depth):
    """The least cell with the greatest chance, and that, or None where none may be clear; refused like chances."""
    found = known_layings(board, depth)
    cells = closed(board)
    if all_full(found, cells):
        return None
    many = [through_by(board, found, cells, depth, cell) for cell in cells]
    # The cells are sorted, so the first of the greatest is at the least of these cells.
    return (cells[many.index(max(many))], fraction(max(many), len(found)))


def plan(board, depth):
    """The best cell and, by each number that it may tell, the plan for what goes on, or None; refused like chances."""
    opening = best(board, depth)
    if depth == 0 or opening is None:
        return None
    cell = opening[0]
    plans = {}
    for number in sorted(told_apart(board, layings(board), cell)):
        plans[number] = plan(opened(board, {cell: number}), depth - 1)
    return (cell, plans)


def known_layings(board, depth):
    """All layings of a board that may be asked of to this depth, or a refusal with TooGreat, else with NoLaying."""
    if len(closed(board)) > MOST_CLOSED or not 0 <= depth <= MOST_DEPTH:
        raise TooGreat("chances are told of at most eight closed cells, to a depth from 0 to 3")
    found = layings(board)
    if found == []:
        raise NoLaying("the board has no laying")
    return found


def through(board, found, cells, depth):
    """The most of the found layings that come through so many openings of the cells."""
    if depth == 0 or all_full(found, cells):
        return len(found)
    return max([through_by(board, found, cells, depth, cell) for cell in cells])


def through_by(board, found, cells, depth, cell):
    """The most of the found layings that come through so many openings, the first of them at this cell."""
    if depth == 0:
        return len(found)
    others = [place for place in cells if place != cell]
    groups = told_apart(board, found, cell)
    return sum([through(board, group, others, depth - 1) for group in groups.values()])


def told_apart(board, found, cell):
    """Those of the found layings that go on when the cell is opened, as lists by the number that it tells."""
    near = around(board, cell)
    groups = {}
    for laying in found:
        if cell not in laying:
            number = len([place for place in laying if place in near])
            groups.setdefault(number, []).append(laying)
    return groups


def all_full(found, cells):
    """Whether each of the cells is in each of the found layings."""
    return all([all([cell in laying for cell in cells]) for laying in found])
