"""Fields: lists of texts that show where the stones lie, and the boards that one sees of them."""

from stonelay.boards import around, board_of, cells_of, checked_rows, opened, sign_at

CLEAR_SIGN = "."
STONE_SIGN = "o"
FIELD_SIGNS = ".o#"


def field_of(rows):
    """The field of these rows, or a refusal with NoBoard."""
    return checked_rows(rows, FIELD_SIGNS)


def stones_of(field):
    """The sorted list of the cells with a stone."""
    return cells_with(field, STONE_SIGN)


def clears_of(field):
    """The sorted list of the cells without a stone."""
    return cells_with(field, CLEAR_SIGN)


def cells_with(field, sign):
    """The sorted list of the cells with this sign."""
    # A field is looked at like the rows of a board, whose number of stones doesn't matter here.
    seen = (field, 0)
    return [cell for cell in cells_of(seen) if sign_at(seen, cell) == sign]


def board_at(field, cells):
    """The board of the field with these clear cells opened."""
    stones = stones_of(field)
    hidden = board_of([text.replace(CLEAR_SIGN, "?").replace(STONE_SIGN, "?") for text in field], len(stones))
    numbers = {}
    for cell in cells:
        numbers[cell] = len([place for place in around(hidden, cell) if place in stones])
    return opened(hidden, numbers)
