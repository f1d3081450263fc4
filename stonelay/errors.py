"""The refusals: one class for each, all under StoneError and none under another one."""


class StoneError(ValueError):
    """Any refusal."""


class NoBoard(StoneError):
    """The rows are none that a board or a field may have."""


class NoCount(StoneError):
    """A number of stones lies outside what is allowed."""


class TooGreat(StoneError):
    """What is asked goes beyond the bounds within which it is answered."""


class NoLaying(StoneError):
    """Nothing fits what is told, so nothing can be said of what fits."""


class NoCell(StoneError):
    """There is no such cell as is asked for."""


class NoText(StoneError):
    """It is no written board."""


class NoRow(StoneError):
    """It is no row that the desk knows."""


class NoNumber(StoneError):
    """It is no number as the desk reads them."""


class NoTable(StoneError):
    """The desk has no board yet."""
