"""Logs: some of the numbers that were used, with their servers, in the sequence of their use."""

from numberbooks.checks import MOST_ENTRIES, check_count, check_entries, check_number, check_server, check_servers
from numberbooks.checks import check_size, is_entry
from numberbooks.errors import InvalidLog


class Log:
    """A log of servers that use all numbers of a block before they take another one; it does not change."""

    KIND = "steady"

    def __init__(self, size, servers, entries):
        check_size(size)
        check_servers(servers)
        check_entries(servers, entries)
        self._size = size
        self._servers = list(servers)
        self._entries = list(entries)

    @property
    def size(self):
        """How many numbers a block has."""
        return self._size

    @property
    def servers(self):
        """A new list of the servers."""
        return list(self._servers)

    @property
    def entries(self):
        """A new list of the entries."""
        return list(self._entries)

    def __len__(self):
        return len(self._entries)

    def __add__(self, other):
        if not self._is_alike(other):
            raise InvalidLog("only logs of the same kind, size and servers are put together")
        entries = self._entries + other._entries
        if len(entries) > MOST_ENTRIES:
            raise InvalidLog("a log has at most 200 entries")
        return new_log(self.KIND, self._size, self._servers, entries)

    def __eq__(self, other):
        return self._is_alike(other) and self._entries == other._entries

    def __contains__(self, thing):
        # ("ann", True) equals ("ann", 1) for Python, but it is no entry.
        return is_entry(self._servers, thing) and thing in self._entries

    def with_entry(self, server, number):
        """The log with an entry more at its end."""
        check_server(self._servers, server)
        check_number(number)
        if len(self._entries) >= MOST_ENTRIES:
            raise InvalidLog("a log has at most 200 entries")
        return new_log(self.KIND, self._size, self._servers, self._entries + [(server, number)])

    def front(self, count):
        """The log of the first entries."""
        check_count(count, len(self._entries))
        return new_log(self.KIND, self._size, self._servers, self._entries[:count])

    def last_block(self):
        """The greatest block of which a number is in an entry, or -1."""
        return max([number // self._size for _, number in self._entries], default=-1)

    def _is_alike(self, other):
        """Whether any object is a log of the same kind, size and servers."""
        if not isinstance(other, Log) or self.KIND != other.KIND:
            return False
        return self._size == other._size and self._servers == other._servers


class LosingLog(Log):
    """A log of servers that may also lose what is left of a block."""

    KIND = "losing"


def new_log(kind, size, servers, entries):
    """The log of a kind, which stands for the class: classes are not passed on."""
    if kind == LosingLog.KIND:
        return LosingLog(size, servers, entries)
    return Log(size, servers, entries)


def log_of_any_length(kind, size, servers, entries):
    """The log of a kind with entries that are valid, also more than 200.

    A live log may be used for more calls than it is meant for, and no error may come of this.
    """
    log = new_log(kind, size, servers, [])
    log._entries = list(entries)
    return log
