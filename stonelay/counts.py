"""The counts of a whole board: its parts poured together, the rest of the stones dealt to the far cells."""

from stonelay.partcounts import part_counts, part_counts_at
from stonelay.parts import bare_wrong, far, parts
from stonelay.pouring import choices, poured


def near_counts(board):
    """The counts of all parts of the board poured together, or a refusal with TooGreat."""
    return all_poured([part_counts(board, part) for part in parts(board)])


def count(board):
    """How many layings the board has, or a refusal with TooGreat."""
    return dealt(board, near_counts(board), len(far(board)), board[1])


def count_at(board, cell):
    """How many layings of the board have a closed cell, or a refusal with TooGreat."""
    lists = []
    for part in parts(board):
        if cell in part:
            lists.append(part_counts_at(board, part, cell))
        else:
            lists.append(part_counts(board, part))
    rest = far(board)
    if cell in rest:
        # One stone lies there; the others are dealt to the other far cells.
        return dealt(board, all_poured(lists), len(rest) - 1, board[1] - 1)
    return dealt(board, all_poured(lists), len(rest), board[1])


def all_poured(lists):
    """All these lists of counts poured together, [1] where there is none."""
    counts = [1]
    for others in lists:
        counts = poured(counts, others)
    return counts


def dealt(board, counts, cells, stones):
    """How many ways there are to take stones as the counts tell and to deal the others to so many cells."""
    if bare_wrong(board) != []:
        return 0
    return sum([many * choices(cells, stones - k) for k, many in enumerate(counts)])
