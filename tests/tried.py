"""All that small histories can do, straight from the rules of point 3, for comparison; and tests' own windows.

Nothing here uses the package's own walks.
"""

import itertools


def all_logs(servers, numbers, most):
    """The entries of all logs with these servers and numbers, up to so many entries."""
    pairs = [(server, number) for server in servers for number in range(numbers)]
    for count in range(most + 1):
        for entries in itertools.product(pairs, repeat=count):
            yield list(entries)


class Tried:
    """All histories of a few blocks that show these entries.

    A state is (k, taken, hands): the first k entries are shown, so many blocks are taken, and hands has for each
    server the number that it uses next, or None if it may take a block.
    """

    def __init__(self, size, servers, entries, losing, spare=1):
        self.size = size
        self.servers = servers
        self.entries = entries
        self.losing = losing
        self.limit = max([number // size for _, number in entries], default=-1) + 1 + spare
        self.ends = {}
        self.takes = set()
        start = (0, 0, (None,) * len(servers))
        self.possible = self.can_end(start)
        if self.possible:
            self.collect(start)

    def steps(self, state):
        """The events that can follow a state, as tuples (next state, block and server that is taken, or None)."""
        shown, taken, hands = state
        for place, server in enumerate(self.servers):
            hand = hands[place]
            if hand is None:
                if taken < self.limit:
                    yield (shown, taken + 1, with_hand(hands, place, taken * self.size)), (taken, server, shown)
                continue
            following = None if (hand + 1) % self.size == 0 else hand + 1
            after = with_hand(hands, place, following)
            yield (shown, taken, after), None
            if shown < len(self.entries) and self.entries[shown] == (server, hand):
                yield (shown + 1, taken, after), None
            if self.losing:
                yield (shown, taken, with_hand(hands, place, None)), None

    def can_end(self, state):
        """Whether all entries can be shown from this state on."""
        if state[0] == len(self.entries):
            return True
        if state not in self.ends:
            self.ends[state] = any([self.can_end(after) for after, _ in self.steps(state)])
        return self.ends[state]

    def collect(self, start):
        """Keep each (block, server, slot) with which a block is taken in a history that shows the entries."""
        seen = {start}
        waiting = [start]
        while waiting:
            for after, take in self.steps(waiting.pop()):
                if not self.can_end(after):
                    continue
                if take is not None:
                    self.takes.add(take)
                if after not in seen:
                    seen.add(after)
                    waiting.append(after)

    def slots(self, block):
        """The slots in which some server takes the block in some history."""
        return [slot for taken, _, slot in self.takes if taken == block]


def with_hand(hands, place, hand):
    return hands[:place] + (hand,) + hands[place + 1:]


def plain_window(size, entries, server, block):
    """The window of point 3, word by word."""
    if any([other != server and number // size == block for other, number in entries]):
        return None
    lower = [k for k, (other, number) in enumerate(entries) if other == server and number // size < block]
    higher = [k for k, (other, number) in enumerate(entries) if other == server and number // size >= block]
    return (lower[-1] + 1 if lower else 0, higher[0] if higher else len(entries))


def has_pair(size, entries):
    """Whether there are entries for a certificate of two entries."""
    for i, j in itertools.combinations(range(len(entries)), 2):
        if is_pair(size, entries, "twice", i, j) or is_pair(size, entries, "shared", i, j):
            return True
        if is_pair(size, entries, "back", i, j):
            return True
    return False


def is_pair(size, entries, kind, i, j):
    """Whether entries i < j are such a certificate, by the words of point 7."""
    if not 0 <= i < j < len(entries):
        return False
    server, number = entries[i]
    later_server, later_number = entries[j]
    if kind == "twice":
        return number == later_number
    if kind == "shared":
        return number // size == later_number // size and server != later_server
    return kind == "back" and server == later_server and number > later_number


def is_pushed(size, servers, entries, steps):
    """Whether a list of tuples of two integers is such a certificate, by the words of point 7."""
    greatest = max([number // size for _, number in entries], default=-1)
    blocks = [block for block, _ in steps]
    slots = [slot for _, slot in steps]
    if has_pair(size, entries) or not steps or slots[-1] != len(entries) + 1 or slots[0] < 1:
        return False
    if not all([0 <= block <= greatest for block in blocks]):
        return False
    if sorted(set(blocks)) != blocks or sorted(set(slots)) != slots:
        return False
    for former, (block, slot) in zip([0] + slots, steps):
        for server in servers:
            found = plain_window(size, entries, server, block)
            if found is not None and [k for k in range(former, slot) if found[0] <= k <= found[1]]:
                return False
    return True


def shows(size, servers, entries, found):
    """Whether a certificate of the right form holds, by the words of point 7."""
    if found[0] == "pushed":
        return is_pushed(size, servers, entries, found[1])
    return is_pair(size, entries, found[0], found[1], found[2])


def in_some_window(size, servers, entries, block):
    """The slots that are in some window for a block."""
    slots = []
    for server in servers:
        found = plain_window(size, entries, server, block)
        if found is not None:
            slots = slots + list(range(found[0], found[1] + 1))
    return slots


def plain_earliest(size, servers, entries):
    """e(0) to e(M) by the words of R1, block after block; None if there is none of some block."""
    found = []
    for block in range(max([number // size for _, number in entries], default=-1) + 1):
        slots = [k for k in in_some_window(size, servers, entries, block) if not found or k >= found[-1]]
        if not slots:
            return None
        found.append(min(slots))
    return found


def plain_latest(size, servers, entries):
    """l(0) to l(M) by the words of R2, block after block, of a possible log."""
    found = []
    following = len(entries)
    for block in range(max([number // size for _, number in entries], default=-1), -1, -1):
        following = max([k for k in in_some_window(size, servers, entries, block) if k <= following])
        found.append(following)
    return found[::-1]
