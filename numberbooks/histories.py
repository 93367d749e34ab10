"""Histories: takes and uses, one after another, as the rules allow them."""

from numberbooks.checks import MOST_EVENTS, check_events, check_servers, check_size
from numberbooks.errors import InvalidEvents, TooLarge
from numberbooks.logs import Log
from numberbooks.owners import Reach
from numberbooks.walks import check_possible


class Run:
    """A history that goes on: what each server holds, and what was taken and used so far."""

    def __init__(self, size, servers):
        self.block_size = size
        self.events_so_far = []
        self.uses_so_far = []
        self.owners_so_far = []
        self.following = {server: 0 for server in servers}
        self.behind = {server: 0 for server in servers}

    def has_left(self, server):
        """Whether a server has numbers left in the block that it took last."""
        return self.following[server] < self.behind[server]

    def take(self, server):
        """Let a server take the next block."""
        first = len(self.owners_so_far) * self.block_size
        self.following[server] = first
        self.behind[server] = first + self.block_size
        self.owners_so_far.append(server)
        self.events_so_far.append(("take", server))

    def use(self, server):
        """Let a server use the next number of its block."""
        number = self.following[server]
        self.following[server] = number + 1
        self.uses_so_far.append((server, number))
        self.events_so_far.append(("use", server))

    def go_on(self, kind, server):
        """Add an event, or raise InvalidEvents if it is not allowed now."""
        if self.has_left(server) != (kind == "use"):
            raise InvalidEvents("a server takes a block when it has no numbers left, and uses them when it has some")
        if kind == "use":
            self.use(server)
        else:
            self.take(server)

    def finish_and_take(self, server):
        """Let a server use all that it has left and take the next block."""
        while self.has_left(server):
            self.use(server)
        self.take(server)

    def use_up_to(self, server, number):
        """Let a server use the numbers of its block up to this one."""
        while self.following[server] <= number:
            self.use(server)


class History:
    """Takes and uses that are allowed by the rules; it does not change."""

    def __init__(self, size, servers, events):
        check_size(size)
        check_servers(servers)
        check_events(servers, events)
        run = Run(size, servers)
        for kind, server in events:
            run.go_on(kind, server)
        self._size = size
        self._servers = list(servers)
        self._events = list(events)
        self._uses = run.uses_so_far
        self._owners = run.owners_so_far

    @property
    def size(self):
        """How many numbers a block has."""
        return self._size

    @property
    def servers(self):
        """A new list of the servers."""
        return list(self._servers)

    @property
    def events(self):
        """A new list of the events."""
        return list(self._events)

    def uses(self):
        """Yield the tuples (server, number) of all uses, in their sequence."""
        for use in self._uses:
            yield use

    def owners(self):
        """A new list of the owners of the blocks that are taken."""
        return list(self._owners)

    def __call__(self, thing):
        """Whether any object is a log with the same size and servers that shows some of the uses."""
        if not isinstance(thing, Log) or thing.size != self._size or thing.servers != self._servers:
            return False
        entries = thing.entries
        shown = 0
        for use in self._uses:
            if shown < len(entries) and entries[shown] == use:
                shown = shown + 1
        return shown == len(entries)


def history_for(log):
    """A history that shows the log."""
    check_possible(log)
    if (log.last_block() + 1) * (log.size + 1) > MOST_EVENTS:
        raise TooLarge("a history of this log may need more than 1,000 events")
    takes = earliest_takes(Reach(log))
    run = Run(log.size, log.servers)
    for index, (server, number) in enumerate(log.entries):
        for owner in [name for slot, name in takes if slot == index]:
            run.finish_and_take(owner)
        run.use_up_to(server, number)
    return History(log.size, log.servers, run.events_so_far)


def earliest_takes(reach):
    """For each block from 0 to M a tuple (slot, server): its earliest slot, and who can take it then."""
    takes = []
    for index, (first, last) in enumerate(reach.spans):
        takes.extend([(reach.first_slots[index], reach.first_owner_in(index))] * (last + 1 - first))
    return takes
