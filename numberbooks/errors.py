"""The errors of the package."""


class BookError(ValueError):
    """What every error of the package is."""


class InvalidSize(BookError):
    """The size is no integer from 1 to 10 ** 30."""


class InvalidServers(BookError):
    """The servers are no list of 1 to 12 different names."""


class InvalidEntries(BookError):
    """The entries are no list of 0 to 200 tuples (server, number)."""


class InvalidEvents(BookError):
    """The events are no list of events that is allowed."""


class InvalidServer(BookError):
    """The server is none of the servers of the log."""


class InvalidBlock(BookError):
    """There is no such block, or it is not asked for."""


class InvalidNumber(BookError):
    """A number, a count or an index is out of its range."""


class InvalidOwners(BookError):
    """The owners are no possible list of owners."""


class InvalidLog(BookError):
    """The log cannot be continued in this way."""


class TooLarge(BookError):
    """The answer would be too large."""


class NothingToUndo(BookError):
    """There is no call that can be undone."""


class NotPossible(BookError):
    """The log is not possible; the field obstacle shows why."""

    def __init__(self, obstacle):
        self.obstacle = obstacle


class InvalidText(BookError):
    """The text cannot be read; the field word is the number of the first word that cannot stand there."""

    def __init__(self, word):
        self.word = word
