"""The thoughts of a board: steps that each follow from one or two things told and what was found ahead."""

from stonelay.boards import open_cells
from stonelay.counts import count
from stonelay.errors import NoLaying, TooGreat
from stonelay.parts import closed_around
from stonelay.thinking import ALL, asked_by, gained, known_of, still_asked

MOST_THINGS = 30


def thoughts(board):
    """The steps and what they find, a tuple (steps, finding), or a refusal with TooGreat, else with NoLaying."""
    # From a bare open cell nothing follows, nor with it more than from the other thing alone.
    cells = [cell for cell in open_cells(board) if closed_around(board, cell) != []]
    if len(cells) > MOST_THINGS:
        raise TooGreat("thoughts are told of at most thirty open cells that are not bare")
    if count(board) == 0:
        raise NoLaying("the board has no laying")
    return all_steps(board, cells + [ALL])


def all_steps(board, things):
    """All steps that follow from these things, and the finding of all cells that they find."""
    asked = [asked_by(board, thing) for thing in things]
    lists = place_lists(asked)
    steps = []
    finding = ([], [])
    step = first_step(things, asked, lists, finding)
    while step is not None:
        steps.append(step)
        finding = (sorted(finding[0] + step[1]), sorted(finding[1] + step[2]))
        step = first_step(things, asked, lists, finding)
    return (steps, finding)


def place_lists(asked):
    """The lists of places, in their order, of those things that may together tell something."""
    singles = [[place] for place in range(len(asked))]
    pairs = []
    for place, one in enumerate(asked):
        for other in range(place + 1, len(asked)):
            # Two without a common cell tell no more than each alone.
            if any([cell in asked[other][1] for cell in one[1]]):
                pairs.append([place, other])
    return singles + pairs


def first_step(things, asked, lists, finding):
    """The step of the first list of places from which more follows than the finding has, or None."""
    known = known_of(finding)
    left = [still_asked(some, known) for some in asked]
    for places in lists:
        told = gained([left[place] for place in places])
        if told != ([], []):
            return ([things[place] for place in places], told[0], told[1])
    return None
