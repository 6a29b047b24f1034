"""The errors of the package."""


class PeakError(ValueError):
    """The base class of all errors that the package raises."""


class InvalidRow(PeakError):
    """A value is not a row."""


class InvalidTimes(PeakError):
    """A value is not the times of some row."""


class InvalidPlace(PeakError):
    """A value is not a place."""


class InvalidRounds(PeakError):
    """A value is not a number of rounds."""


class InvalidNumber(PeakError):
    """A value is not a number that is asked for."""


class InvalidEntry(PeakError):
    """A value is not an entry."""


class InvalidIndex(PeakError):
    """A value is not the index of an item."""


class InvalidText(PeakError):
    """A value is not the text of a row."""


class InvalidCommand(PeakError):
    """A value is not a command."""


class NotClear(PeakError):
    """Times have two equal ones without a greater one between."""


class NotOrder(PeakError):
    """A value is not an order."""


class NotTimes(PeakError):
    """A value is not a Times object."""


class NothingToUndo(PeakError):
    """No change is left that could be reverted."""


class NoRidge(PeakError):
    """A desk has no ridge yet."""


class TooLarge(PeakError):
    """Something would have more than `limit` items."""

    def __init__(self, limit):
        super().__init__(f"there are more than {limit}")
        self.limit = limit
