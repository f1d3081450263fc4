"""What follows from one or two things told and from what was found ahead of it, and whether a step holds."""

from stonelay.boards import closed, number_at, open_cells
from stonelay.errors import NoLaying
from stonelay.parts import closed_around

ALL = "all"


def follows(board, things, finding):
    """What follows from one or two things told and a finding, as a finding, or a refusal with NoLaying."""
    known = known_of(finding)
    return gained([still_asked(asked_by(board, thing), known) for thing in things])


def asked_by(board, thing):
    """What a thing told asks for: a tuple of a number of stones and the closed cells among which they lie."""
    if thing == ALL:
        return (board[1], closed(board))
    return (number_at(board, thing), closed_around(board, thing))


def known_of(finding):
    """How many stones lie at each cell of a finding, a dict by these."""
    known = dict([(cell, 0) for cell in finding[0]])
    known.update(dict([(cell, 1) for cell in finding[1]]))
    return known


def still_asked(asked, known):
    """What is asked for when the known cells are taken away: as many stones less as lie there."""
    lying = sum([known.get(cell, 0) for cell in asked[1]])
    return (asked[0] - lying, [cell for cell in asked[1] if cell not in known])


def gained(asked):
    """The finding that follows from one or two that ask for stones among cells, or a refusal with NoLaying."""
    one = asked[0]
    # One alone is like two of which the other asks for nothing.
    other = asked[1] if len(asked) == 2 else (0, [])
    both = [cell for cell in one[1] if cell in other[1]]
    one_alone = [cell for cell in one[1] if cell not in both]
    other_alone = [cell for cell in other[1] if cell not in both]
    # How many lie in both settles how many lie in each of the others; each number between these bounds may be so.
    least = max(0, one[0] - len(one_alone), other[0] - len(other_alone))
    most = min(len(both), one[0], other[0])
    if least > most:
        raise NoLaying("no choice of closed cells fits")
    return settled([
        (both, least, most),
        (one_alone, one[0] - most, one[0] - least),
        (other_alone, other[0] - most, other[0] - least),
    ])


def settled(regions):
    """The finding of those regions, tuples of cells and the bounds of their stones, that have no stone or are full."""
    clears = []
    stones = []
    for cells, least, most in regions:
        if most == 0:
            clears.extend(cells)
        if least == len(cells):
            stones.extend(cells)
    return (sorted(clears), sorted(stones))


def holds(board, finding, step):
    """Whether a step, a tuple (things, clears, stones), follows from its things and the finding."""
    if not are_things(board, step[0]) or not are_cells(step[1]) or not are_cells(step[2]):
        return False
    try:
        told = follows(board, step[0], finding)
    except NoLaying:
        return False
    return step[1] + step[2] != [] and picked(told[0], step[1]) and picked(told[1], step[2])


def picked(cells, some):
    """Whether some are a sorted list of a part of the cells, which are sorted, each once."""
    return some == [cell for cell in cells if cell in some]


def are_things(board, things):
    """Whether it is a list of one or two unlike things told."""
    if not isinstance(things, list) or len(things) not in (1, 2):
        return False
    if len(things) == 2 and things[0] == things[1]:
        return False
    told = open_cells(board)
    return all([thing == ALL or (is_cell(thing) and thing in told) for thing in things])


def are_cells(cells):
    """Whether it is a list of tuples of whole numbers."""
    return isinstance(cells, list) and all([is_cell(cell) for cell in cells])


def is_cell(thing):
    """Whether it is a tuple of whole numbers."""
    # True would else pass for 1 beside a cell of the board.
    return isinstance(thing, tuple) and all([isinstance(part, int) and not isinstance(part, bool) for part in thing])
