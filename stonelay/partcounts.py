"""Layings and counts of a part: what its own numbers allow, whatever lies elsewhere."""

from stonelay.boards import around, number_at
from stonelay.errors import TooGreat
from stonelay.parts import numbers_of

MOST_OF_PART = 14


def part_layings(board, part):
    """The sorted list of all layings of a part, or a refusal with TooGreat beyond fourteen cells."""
    if len(part) > MOST_OF_PART:
        raise TooGreat("layings are told of parts with at most fourteen cells")
    told = [(number_at(board, cell), around(board, cell)) for cell in numbers_of(board, part)]
    found = [[]]
    for place, cell in enumerate(part):
        needs = needs_at(told, cell, part[place + 1:])
        grown = found + [pick + [cell] for pick in found]
        # What can't fit any more is dropped at once, so that few choices are ever kept.
        found = [pick for pick in grown if may_fit(needs, pick)]
    return sorted(found)


def needs_at(told, cell, rest):
    """What the numbers around a cell ask of a choice that only the rest may still be added to.

    Each is a tuple (least, most, near): from least to most of the cells near it are to be chosen already.
    """
    needs = []
    for number, near in told:
        if cell in near:
            left = len([place for place in near if place in rest])
            needs.append((number - left, number, near))
    return needs


def may_fit(needs, pick):
    """Whether a choice of cells keeps to all these needs."""
    for least, most, near in needs:
        if not least <= len([cell for cell in pick if cell in near]) <= most:
            return False
    return True


def part_counts(board, part):
    """The list of how many layings of a part have 0, 1, 2 and so on cells, or a refusal with TooGreat."""
    return counted(part_layings(board, part), len(part))


def part_counts_at(board, part, cell):
    """The counts of those layings of a part alone that have a cell of it, or a refusal with TooGreat."""
    return counted_at(part_layings(board, part), len(part), cell)


def counted(found, greatest):
    """The list of how many of the layings have k cells, for k from 0 to the greatest."""
    counts = [0] * (greatest + 1)
    for laying in found:
        counts[len(laying)] += 1
    return counts


def counted_at(found, greatest, cell):
    """The same list, of those layings alone that have a cell."""
    return counted([laying for laying in found if cell in laying], greatest)
