"""The counts of a whole board: its parts poured together, the rest of the stones dealt to the far cells."""

from stonelay.boards import closed
from stonelay.partcounts import counted, counted_at, part_counts, part_layings
from stonelay.parts import bare_wrong, far, parts
from stonelay.pouring import choices, poured


def near_counts(board):
    """The counts of all parts of the board poured together, or a refusal with TooGreat."""
    return all_poured([part_counts(board, part) for part in parts(board)])


def count(board):
    """How many layings the board has, or a refusal with TooGreat."""
    # Ahead of the bare cells, since TooGreat goes ahead of all else.
    near = near_counts(board)
    if bare_wrong(board) != []:
        return 0
    return dealt(near, len(far(board)), board[1])


def count_at(board, cell):
    """How many layings of the board have a closed cell, or a refusal with TooGreat."""
    return counts_by_cell(board)[cell]


def counts_by_cell(board):
    """The counts at all closed cells, a dict by these, or a refusal with TooGreat."""
    pieces = parts(board)
    # The layings of each part are gone for once and serve all cells, since they are what takes long.
    found = [part_layings(board, part) for part in pieces]
    if bare_wrong(board) != []:
        return dict([(cell, 0) for cell in closed(board)])
    counts = [counted(some, len(part)) for part, some in zip(pieces, found)]
    rest = far(board)
    # One stone lies at the far cell; the others are dealt to the other far cells.
    at_far = dealt(all_poured(counts), len(rest) - 1, board[1] - 1)
    told = dict([(cell, at_far) for cell in rest])
    for place, part in enumerate(pieces):
        others = all_poured(counts[:place] + counts[place + 1:])
        for cell in part:
            near = poured(others, counted_at(found[place], len(part), cell))
            told[cell] = dealt(near, len(rest), board[1])
    return told


def all_poured(lists):
    """All these lists of counts poured together, [1] where there is none."""
    counts = [1]
    for others in lists:
        counts = poured(counts, others)
    return counts


def dealt(counts, cells, stones):
    """How many ways there are to take stones as the counts tell and to deal the others to so many cells."""
    return sum([many * choices(cells, stones - k) for k, many in enumerate(counts)])
