"""What is sure of a board: the shares of its closed cells, the sure ones, and layings that show the others."""

from stonelay.boards import closed
from stonelay.counts import count, counts_by_cell
from stonelay.errors import NoLaying
from stonelay.fractions import fraction
from stonelay.partcounts import part_layings
from stonelay.parts import far, parts


def share(board, cell):
    """In which share of all layings a stone lies at a closed cell, or a refusal with TooGreat, else with NoLaying."""
    return shares(board)[cell]


def shares(board):
    """The shares of all closed cells, a dict by these, or a refusal with TooGreat, else with NoLaying."""
    every = some_count(board)
    at_cells = counts_by_cell(board)
    return dict([(cell, fraction(at_cells[cell], every)) for cell in closed(board)])


def some_count(board):
    """How many layings the board has, or a refusal with NoLaying where it has none."""
    every = count(board)
    if every == 0:
        raise NoLaying("the board has no laying")
    return every


def sure(board):
    """The closed cells that no laying has, and those that each has, or a refusal with TooGreat, else with NoLaying."""
    told = shares(board)
    clears = [cell for cell in closed(board) if told[cell] == (0, 1)]
    stones = [cell for cell in closed(board) if told[cell] == (1, 1)]
    return (clears, stones)


def witnesses(board, cell):
    """Some laying that has a closed cell and some that has it not, None for none, or a refusal like that of sure."""
    some_count(board)
    groups = [(part, part_layings(board, part)) for part in parts(board)]
    groups.append((far(board), far_picks(far(board), cell)))
    having = some_laying(groups, cell, True, board[1])
    lacking = some_laying(groups, cell, False, board[1])
    return (having, lacking)


def far_picks(cells, cell):
    """Choices of far cells: of each size one that hasn't the cell and, if it is far, one that has it."""
    # One of a size is enough, since no number tells far cells from one another.
    others = [place for place in cells if place != cell]
    picks = [others[:size] for size in range(len(others) + 1)]
    if cell not in cells:
        return picks
    return picks + [pick + [cell] for pick in picks]


def some_laying(groups, cell, lies, stones):
    """Some laying of so many stones, one pick of each group, that has the cell or, as lies tells, not; else None."""
    ways = {0: []}
    for cells, picks in groups:
        ways = grown(ways, [pick for pick in picks if cell not in cells or (cell in pick) == lies])
    if stones not in ways:
        return None
    return sorted(ways[stones])


def grown(ways, picks):
    """One way by each number of cells that a way and a pick can have together."""
    by_size = dict([(len(pick), pick) for pick in picks])
    found = {}
    for size, cells in ways.items():
        for more, pick in by_size.items():
            found[size + more] = cells + pick
    return found
