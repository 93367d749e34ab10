"""Walks over the blocks: the windows in which they can be taken, and what makes a log impossible."""

from numberbooks.checks import check_block, check_block_up_to, check_server, is_integer, is_natural
from numberbooks.errors import NotPossible


class Sight:
    """What entries show of the blocks.

    It takes more than 200 entries, too: some questions are about a log with one entry more.
    """

    def __init__(self, size, servers, entries):
        self.names = list(servers)
        self.last_slot = len(entries)
        self.holders = {}
        self.places = {server: [] for server in servers}
        for index, (server, number) in enumerate(entries):
            block = number // size
            self.holders.setdefault(block, []).append(server)
            self.places[server].append((index, block))

    def window_of(self, server, block):
        """The window of a server for a block as a tuple (low, high), or None."""
        if any([holder != server for holder in self.holders.get(block, [])]):
            return None
        low = 0
        high = self.last_slot
        for index, seen in self.places[server]:
            if seen < block:
                low = index + 1
            else:
                high = min(high, index)
        return (low, high)

    def windows_of(self, block):
        """The windows of all servers that have one for the block."""
        found = [self.window_of(name, block) for name in self.names]
        return [pair for pair in found if pair is not None]

    def slot_from(self, block, slot):
        """The least slot from this one on that is in some window for the block, or n + 1."""
        found = self.last_slot + 1
        for low, high in self.windows_of(block):
            if max(low, slot) <= high:
                found = min(found, max(low, slot))
        return found

    def slot_up_to(self, block, slot):
        """The greatest slot up to this one that is in some window for the block, or -1."""
        found = -1
        for low, high in self.windows_of(block):
            if low <= min(high, slot):
                found = max(found, min(high, slot))
        return found

    def span_starts(self):
        """The blocks from 0 to M that begin a span, ascending; all blocks of a span have the same windows.

        Each seen block is a span; hidden neighbours are one together, for there may be 10 ** 60 of them.
        """
        starts = []
        following = 0
        for block in sorted(self.holders):
            if following < block:
                starts.append(following)
            starts.append(block)
            following = block + 1
        return starts

    def whole_spans(self):
        """The tuples (first, last) of the blocks of each span; the last span is block M alone."""
        starts = self.span_starts()
        ends = [start - 1 for start in starts[1:]] + starts[-1:]
        return list(zip(starts, ends))

    def span_index(self, block):
        """The index of the span with this block, from 0 to M."""
        return len([start for start in self.span_starts() if start <= block]) - 1

    def earliest_slots(self):
        """The earliest slot of each span; the list ends with n + 1 at the first span that has none.

        One step for each span is enough: what fits the first block of a span fits its other blocks, too.
        """
        found = []
        slot = 0
        for start in self.span_starts():
            slot = self.slot_from(start, slot)
            found.append(slot)
            if slot > self.last_slot:
                break
        return found

    def latest_slots(self):
        """The latest slot of each span of a possible log."""
        found = []
        slot = self.last_slot
        for start in self.span_starts()[::-1]:
            slot = self.slot_up_to(start, slot)
            found.append(slot)
        return found[::-1]


def sight_of(log):
    """What the entries of a log show."""
    return Sight(log.size, log.servers, log.entries)


def window(log, server, block):
    """The window of a server for a block as a tuple (low, high), or None."""
    check_server(log.servers, server)
    check_block(block)
    return sight_of(log).window_of(server, block)


def obstacle(log):
    """None if the log is possible, else a certificate of why it is not."""
    return find_obstacle(log.size, log.servers, log.entries)


def find_obstacle(size, servers, entries):
    """The obstacle of any number of entries, or None."""
    found = find_pair(size, entries)
    if found is not None:
        return found
    steps = pushed_steps(Sight(size, servers, entries))
    if steps and steps[-1][1] > len(entries):
        return ("pushed", steps)
    return None


def find_pair(size, entries):
    """A certificate that two entries make, or None."""
    found = find_twice(entries)
    if found is None:
        found = find_shared(size, entries)
    if found is None:
        found = find_back(entries)
    return found


def find_twice(entries):
    """The certificate of two entries with the same number, or None."""
    indices = {}
    for index, (_, number) in enumerate(entries):
        if number in indices:
            return ("twice", indices[number], index)
        indices[number] = index
    return None


def find_shared(size, entries):
    """The certificate of two entries of one block with different servers, or None."""
    indices = {}
    for index, (server, number) in enumerate(entries):
        former = indices.setdefault(number // size, index)
        if entries[former][0] != server:
            return ("shared", former, index)
    return None


def find_back(entries):
    """The certificate of two entries of one server that do not ascend, or None."""
    indices = {}
    for index, (server, number) in enumerate(entries):
        former = indices.get(server, index)
        if entries[former][1] > number:
            return ("back", former, index)
        indices[server] = index
    return None


def pushed_steps(sight):
    """The blocks that cannot be taken as early as the block before them, each with its earliest slot."""
    steps = []
    former = 0
    for start, slot in zip(sight.span_starts(), sight.earliest_slots()):
        if slot > former:
            steps.append((start, slot))
        former = slot
    return steps


def shows_obstacle(log, thing):
    """Whether any object is a certificate of why the log is not possible."""
    if not isinstance(thing, tuple):
        return False
    if len(thing) == 2:
        return thing[0] == "pushed" and shows_pushed(log, thing[1])
    if len(thing) == 3:
        return shows_pair(log, thing[0], thing[1], thing[2])
    return False


def shows_pair(log, kind, i, j):
    """Whether any three objects are a certificate of two entries."""
    if not is_natural(i) or not is_natural(j) or not i < j < len(log):
        return False
    entries = log.entries
    server, number = entries[i]
    later_server, later_number = entries[j]
    if kind == "twice":
        return number == later_number
    if kind == "shared":
        return server != later_server and number // log.size == later_number // log.size
    if kind == "back":
        return server == later_server and number > later_number
    return False


def shows_pushed(log, steps):
    """Whether any object is a list of steps by which the blocks are pushed behind all slots."""
    if not isinstance(steps, list) or not all([is_step(step) for step in steps]):
        return False
    if steps == [] or steps[-1][1] != len(log) + 1:
        return False
    if not steps_ascend(steps) or steps[0][0] < 0 or steps[-1][0] > log.last_block():
        return False
    if find_pair(log.size, log.entries) is not None:
        return False
    sight = sight_of(log)
    formers = [0] + [slot for _, slot in steps]
    return all([sight.slot_from(block, former) >= slot for former, (block, slot) in zip(formers, steps)])


def is_step(thing):
    """Whether any object is a tuple of two integers."""
    return isinstance(thing, tuple) and len(thing) == 2 and is_integer(thing[0]) and is_integer(thing[1])


def steps_ascend(steps):
    """Whether the slots ascend from 1 on, and the blocks ascend."""
    former_block = steps[0][0] - 1
    former_slot = 0
    for block, slot in steps:
        if block <= former_block or slot <= former_slot:
            return False
        former_block = block
        former_slot = slot
    return True


def earliest(log, block):
    """The earliest slot in which a block from 0 to M can have been taken."""
    check_asked(log, block)
    sight = sight_of(log)
    return sight.earliest_slots()[sight.span_index(block)]


def latest(log, block):
    """The latest slot in which a block from 0 to M can have been taken."""
    check_asked(log, block)
    sight = sight_of(log)
    return sight.latest_slots()[sight.span_index(block)]


def check_asked(log, block):
    """Raise InvalidBlock for a block that is not from 0 to M, then NotPossible if the log has an obstacle."""
    check_block_up_to(block, log.last_block())
    check_possible(log)


def check_possible(log):
    """Raise NotPossible with the obstacle of the log, if it has one."""
    check_entries_possible(log.size, log.servers, log.entries)


def check_entries_possible(size, servers, entries):
    """Raise NotPossible with the obstacle of any number of entries, if they have one."""
    found = find_obstacle(size, servers, entries)
    if found is not None:
        raise NotPossible(found)
