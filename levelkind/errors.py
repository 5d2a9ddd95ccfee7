"""The errors that the functions of the package raise."""


class LevelError(Exception):
    """The base class of all errors of the package."""


class BadValue(LevelError):
    """The argument at this position is not as described."""

    def __init__(self, at):
        self.at = at


class BadText(LevelError):
    """The line with this number does not go on a grid's text."""

    def __init__(self, at):
        self.at = at


class NoPoint(LevelError):
    """What was passed is no place of a point."""

    def __init__(self, place):
        self.place = place


class NoCell(LevelError):
    """What was passed is no cell of the grid."""

    def __init__(self, cell):
        self.cell = cell


class TooMany(LevelError):
    """No more cells can be halved."""

    def __init__(self):
        pass
