"""The errors of the package: one class for each kind of failure."""


class ShelfError(ValueError):
    """The base class of all errors of the package."""


class InvalidCapacity(ShelfError):
    """The capacity is not an integer from 1 on."""


class InvalidShelf(ShelfError):
    """The value is not a shelf, or has more pages than the capacity."""


class InvalidLog(ShelfError):
    """The value is not a log."""


class InvalidPage(ShelfError):
    """The value is not a page."""


class InvalidPages(ShelfError):
    """The pages to be found on the shelf in the end are not a shelf."""


class InvalidHistory(ShelfError):
    """The value is not a history of the log."""


class InvalidMoment(ShelfError):
    """The value is not a moment of the log."""


class InvalidIndex(ShelfError):
    """The value is not an index of what is asked for."""


class InvalidObservations(ShelfError):
    """The value is not a list of observations of the log."""


class InvalidTimes(ShelfError):
    """The number of repetitions is not an integer from 0 on."""


class InvalidRule(ShelfError):
    """The value is not a rule of eviction."""


class InvalidRequests(ShelfError):
    """The value is not a list of pages."""


class InvalidMark(ShelfError):
    """The value is neither "hit" nor "miss"."""


class InvalidPresence(ShelfError):
    """The value that tells whether a page was seen is not a bool."""


class InvalidText(ShelfError):
    """The value is not the text of a log or of a shelf."""


class NotPossible(ShelfError):
    """The log, or what is added to it, is not possible."""


class NotFinal(ShelfError):
    """The pages cannot be the final contents of the shelf."""


class NothingToUndo(ShelfError):
    """There is no action that can be undone."""


class TooLarge(ShelfError):
    """The log has more evicting misses than the limit."""

    def __init__(self, limit):
        super().__init__(f"more than {limit} evicting misses")
        self.limit = limit
