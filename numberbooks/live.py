"""Live logs: they take entries one after another, refuse impossible ones, and give entries back."""

from numberbooks.checks import check_count, check_number, check_server, check_servers, check_size
from numberbooks.errors import NothingToUndo
from numberbooks.logs import log_of_any_length
from numberbooks.walks import check_entries_possible


class LiveLog:
    """A log that takes entries, with undo."""

    KIND = "steady"

    def __init__(self, size, servers):
        check_size(size)
        check_servers(servers)
        self._size = size
        self._servers = list(servers)
        self._entries = []
        # For each mark how many entries there were when it was made.
        self._marks = []

    def __len__(self):
        return len(self._entries)

    def see(self, server, number):
        """Add an entry, or raise NotPossible if it cannot follow."""
        check_server(self._servers, server)
        check_number(number)
        entry = (server, number)
        # No log is made for this: the entry that is refused may be the 201st one.
        check_entries_possible(self._size, self._servers, self._entries + [entry])
        self._entries.append(entry)

    def now(self):
        """The log of the entries."""
        return log_of_any_length(self.KIND, self._size, self._servers, self._entries)

    def undo(self):
        """Undo the last see, and remove the marks that were made after it."""
        if len(self._entries) == 0:
            raise NothingToUndo("there is no entry")
        del self._entries[-1]
        self._marks = [count for count in self._marks if count <= len(self._entries)]

    def mark(self):
        """Make a mark and return its number."""
        self._marks.append(len(self._entries))
        return len(self._marks) - 1

    def undo_to(self, index):
        """Undo the calls behind a mark, keep it and remove later marks."""
        check_count(index, len(self._marks) - 1)
        del self._entries[self._marks[index]:]
        del self._marks[index + 1:]

    def twin(self):
        """An independent copy, marks included."""
        other = new_live(self.KIND, self._size, self._servers)
        other._entries = list(self._entries)
        other._marks = list(self._marks)
        return other


class LiveLosingLog(LiveLog):
    """A live log of servers that may also lose what is left of a block."""

    KIND = "losing"


def new_live(kind, size, servers):
    """The live log of a kind, which stands for the class: classes are not passed on."""
    if kind == LiveLosingLog.KIND:
        return LiveLosingLog(size, servers)
    return LiveLog(size, servers)
