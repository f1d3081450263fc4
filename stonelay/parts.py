"""Parts: the closed cells of which open cells tell something, told apart where no open cell joins them."""

from stonelay.boards import CLOSED_SIGN, around, closed, number_at, open_cells, sign_at


def parts(board):
    """The sorted list of the parts, each a sorted list of near cells."""
    found = []
    for cell in open_cells(board):
        found = joined(found, closed_around(board, cell))
    return sorted(found)


def joined(groups, cells):
    """The groups of cells, those that have one of these cells made into one group with them."""
    # A bare open cell joins nothing, and a part without cells is none.
    if cells == []:
        return groups
    apart = []
    together = list(cells)
    for group in groups:
        if any([cell in group for cell in cells]):
            together.extend(group)
        else:
            apart.append(group)
    return apart + [sorted(set(together))]


def far(board):
    """The sorted list of the closed cells that lie around no open cell."""
    told = [around(board, cell) for cell in open_cells(board)]
    return [cell for cell in closed(board) if not any([cell in near for near in told])]


def numbers_of(board, part):
    """The sorted list of the open cells that have a cell of the part around them."""
    return [cell for cell in open_cells(board) if any([place in part for place in around(board, cell)])]


def bare_wrong(board):
    """The sorted list of the open cells without a closed cell around them that tell another number than 0."""
    bare = [cell for cell in open_cells(board) if closed_around(board, cell) == []]
    return [cell for cell in bare if number_at(board, cell) != 0]


def closed_around(board, cell):
    """The sorted list of the closed cells around a cell."""
    return [place for place in around(board, cell) if sign_at(board, place) == CLOSED_SIGN]
