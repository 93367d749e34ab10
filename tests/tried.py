"""All that small histories can do, straight from the rules of point 3, for comparison; and tests' own windows.

Nothing here uses the package's own walks.
"""

import itertools


def all_logs(servers, numbers, most):
    """The entries of all logs with these servers and numbers, up to so many entries."""
    pairs = [(server, number) for server in servers for number in range(numbers)]
    for count in range(most + 1):
        for entries in itertools.product(pairs, repeat=count):
            yield list(entries)


def random_entries(chance, size, servers, count, blocks):
    """Entries without a certificate of two: each block has one holder, and each server's numbers ascend."""
    holders = [chance.choice(servers) for _ in range(blocks)]
    numbers = sorted(chance.sample(range(blocks * size), min(count, blocks * size)))
    queues = {server: [n for n in numbers if holders[n // size] == server] for server in servers}
    entries = []
    while any(queues.values()):
        server = min([s for s in servers if queues[s]], key=lambda s: queues[s][0] + chance.randint(0, 3 * size))
        entries.append((server, queues[server].pop(0)))
    return entries


def narrow_entries(chance, servers):
    """Entries of blocks of one number, with gaps of none or of three hidden blocks between the seen ones."""
    entries = random_entries(chance, 1, servers, chance.randint(1, 5), 5)
    places = {}
    following = 0
    for number in sorted([number for _, number in entries]):
        places[number] = following + chance.choice((0, 3))
        following = places[number] + 1
    return [(server, places[number]) for server, number in entries]


def wide_places(entries):
    """For each block of such entries some blocks of a wide log, the first and the last one among them."""
    seen = [number for _, number in entries]
    places = {}
    following = 0
    for block in range(max(seen) + 1):
        places[block] = [following]
        # The middle one of three hidden blocks stands for very many.
        if block not in seen and (block - 1) not in seen and (block + 1) not in seen and block > 0:
            places[block] = [following, following + 1, following + 10 ** 25, following + 10 ** 28 - 1]
        following = places[block][-1] + 1
    return places


class Shown:
    """Whether a history of a few blocks shows these entries.

    A state is (k, taken, hands): the first k entries are shown, so many blocks are taken, and hands has for each
    server the number that it uses next, or None if it may take a block.
    """

    def __init__(self, size, servers, entries, losing, spare=1):
        self.size = size
        self.servers = servers
        self.entries = entries
        self.losing = losing
        self.greatest = max([number // size for _, number in entries], default=-1)
        self.limit = self.greatest + 1 + spare
        self.ends = {}
        self.start = (0, 0, (None,) * len(servers))
        self.possible = self.can_end(self.start)

    def steps(self, state):
        """The tuples (next state, event) that can follow a state.

        Events are ("take", block, server, slot), ("use", number) and ("lose", server).
        """
        shown, taken, hands = state
        for place, server in enumerate(self.servers):
            hand = hands[place]
            if hand is None:
                if taken < self.limit:
                    after = with_hand(hands, place, taken * self.size)
                    yield (shown, taken + 1, after), ("take", taken, server, shown)
                continue
            following = None if (hand + 1) % self.size == 0 else hand + 1
            after = with_hand(hands, place, following)
            yield (shown, taken, after), ("use", hand)
            if shown < len(self.entries) and self.entries[shown] == (server, hand):
                yield (shown + 1, taken, after), ("use", hand)
            if self.losing:
                yield (shown, taken, with_hand(hands, place, None)), ("lose", server)

    def can_end(self, state):
        """Whether all entries can be shown from this state on."""
        if state[0] == len(self.entries):
            return True
        if state not in self.ends:
            self.ends[state] = any([self.can_end(after) for after, _ in self.steps(state)])
        return self.ends[state]


class Tried(Shown):
    """All histories of a few blocks that show these entries."""

    def __init__(self, size, servers, entries, losing, spare=1):
        Shown.__init__(self, size, servers, entries, losing, spare)
        self.takes = set()
        if self.possible:
            self.collect()

    def collect(self):
        """Keep each (block, server, slot) with which a block is taken in a history that shows the entries."""
        for _, event in self.reached(lambda event: True):
            if event is not None and event[0] == "take":
                self.takes.add(event[1:])

    def reached(self, allowed):
        """The tuples (state, event before it) of all histories that have allowed events and go on to show all."""
        seen = {self.start}
        waiting = [self.start]
        found = [(self.start, None)]
        while waiting:
            for after, event in self.steps(waiting.pop()):
                if not self.can_end(after) or not allowed(event):
                    continue
                found.append((after, event))
                if after not in seen:
                    seen.add(after)
                    waiting.append(after)
        return found

    def shows_with(self, allowed):
        """Whether the entries are shown by a history that has allowed events only."""
        return any([state[0] == len(self.entries) for state, _ in self.reached(allowed)])

    def slots(self, block):
        """The slots in which some server takes the block in some history."""
        return [slot for taken, _, slot in self.takes if taken == block]

    def is_always_used(self, number):
        """Whether no history that shows the entries goes without this number."""
        return not self.shows_with(lambda event: event != ("use", number))

    def ends_with(self, server, block):
        """Whether in some history this server takes this block and none of the later ones up to M."""
        def allowed(event):
            if event[0] != "take" or event[1] > self.greatest:
                return True
            if event[1] == block:
                return event[2] == server
            return event[1] < block or event[2] != server

        return self.shows_with(allowed)

    def lists(self):
        """The sorted lists of owners of the blocks 0 to M, as tuples of the positions of the servers."""
        first = (self.start, ())
        seen = {first}
        waiting = [first]
        while waiting:
            state, owners = waiting.pop()
            for after, event in self.steps(state):
                more = owners
                if event[0] == "take" and event[1] <= self.greatest:
                    more = owners + (self.servers.index(event[2]),)
                if self.can_end(after) and (after, more) not in seen:
                    seen.add((after, more))
                    waiting.append((after, more))
        return sorted({owners for state, owners in seen if len(owners) == self.greatest + 1
                       and state[0] == len(self.entries)})


def ranges_of(numbers):
    """The tuples (first, last) of neighbouring numbers, as few as possible."""
    firsts = [n for n in numbers if n - 1 not in numbers]
    lasts = [n for n in numbers if n + 1 not in numbers]
    return list(zip(firsts, lasts))


def with_hand(hands, place, hand):
    return hands[:place] + (hand,) + hands[place + 1:]


def plain_window(size, entries, server, block):
    """The window of point 3, word by word."""
    if any([other != server and number // size == block for other, number in entries]):
        return None
    lower = [k for k, (other, number) in enumerate(entries) if other == server and number // size < block]
    higher = [k for k, (other, number) in enumerate(entries) if other == server and number // size >= block]
    return (lower[-1] + 1 if lower else 0, higher[0] if higher else len(entries))


def has_pair(size, entries):
    """Whether there are entries for a certificate of two entries."""
    for i, j in itertools.combinations(range(len(entries)), 2):
        if is_pair(size, entries, "twice", i, j) or is_pair(size, entries, "shared", i, j):
            return True
        if is_pair(size, entries, "back", i, j):
            return True
    return False


def is_pair(size, entries, kind, i, j):
    """Whether entries i < j are such a certificate, by the words of point 7."""
    if not 0 <= i < j < len(entries):
        return False
    server, number = entries[i]
    later_server, later_number = entries[j]
    if kind == "twice":
        return number == later_number
    if kind == "shared":
        return number // size == later_number // size and server != later_server
    return kind == "back" and server == later_server and number > later_number


def is_pushed(size, servers, entries, steps):
    """Whether a list of tuples of two integers is such a certificate, by the words of point 7."""
    greatest = max([number // size for _, number in entries], default=-1)
    blocks = [block for block, _ in steps]
    slots = [slot for _, slot in steps]
    if has_pair(size, entries) or not steps or slots[-1] != len(entries) + 1 or slots[0] < 1:
        return False
    if not all([0 <= block <= greatest for block in blocks]):
        return False
    if sorted(set(blocks)) != blocks or sorted(set(slots)) != slots:
        return False
    for former, (block, slot) in zip([0] + slots, steps):
        for server in servers:
            found = plain_window(size, entries, server, block)
            if found is not None and [k for k in range(former, slot) if found[0] <= k <= found[1]]:
                return False
    return True


def shows(size, servers, entries, found):
    """Whether a certificate of the right form holds, by the words of point 7."""
    if found[0] == "pushed":
        return is_pushed(size, servers, entries, found[1])
    return is_pair(size, entries, found[0], found[1], found[2])


def in_some_window(size, servers, entries, block):
    """The slots that are in some window for a block."""
    slots = []
    for server in servers:
        found = plain_window(size, entries, server, block)
        if found is not None:
            slots = slots + list(range(found[0], found[1] + 1))
    return slots


def plain_earliest(size, servers, entries):
    """e(0) to e(M) by the words of R1, block after block; None if there is none of some block."""
    found = []
    for block in range(max([number // size for _, number in entries], default=-1) + 1):
        slots = [k for k in in_some_window(size, servers, entries, block) if not found or k >= found[-1]]
        if not slots:
            return None
        found.append(min(slots))
    return found


def plain_latest(size, servers, entries):
    """l(0) to l(M) by the words of R2, block after block, of a possible log."""
    found = []
    following = len(entries)
    for block in range(max([number // size for _, number in entries], default=-1), -1, -1):
        following = max([k for k in in_some_window(size, servers, entries, block) if k <= following])
        found.append(following)
    return found[::-1]


def plain_uses(size, servers, events):
    """The uses of a list of events by the words of point 3, or None if it is not allowed."""
    uses = []
    taken = 0
    left = {server: [] for server in servers}
    for kind, server in events:
        if kind == "take" and not left[server]:
            left[server] = list(range(taken * size, taken * size + size))
            taken = taken + 1
        elif kind == "use" and left[server]:
            uses.append((server, left[server].pop(0)))
        else:
            return None
    return uses


def is_part(entries, uses):
    """Whether these entries are some of the uses, in their sequence."""
    rest = iter(uses)
    return all([entry in rest for entry in entries])


def plain_lists(size, servers, entries):
    """The possible lists of owners of an R1 log, ascending: each list with which slots fit the windows, one by one."""
    lists = [((), 0)]
    for block in range(max([number // size for _, number in entries], default=-1) + 1):
        longer = []
        for owners, slot in lists:
            for server in servers:
                low, high = plain_window(size, entries, server, block) or (1, 0)
                fitting = [k for k in range(slot, len(entries) + 1) if low <= k <= high]
                if fitting:
                    longer.append((owners + (server,), fitting[0]))
        lists = longer
    return [list(owners) for owners, _ in lists]
