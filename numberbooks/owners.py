"""Owners: the servers that can have taken each block, and when."""

from numberbooks.checks import check_server
from numberbooks.walks import check_asked, check_possible, sight_of


class Reach:
    """The slots in which the blocks of a possible log can be taken (R2).

    The blocks of a span have the same ones, therefore everything is asked by the index of a span.

    Any choice of one possible owner for each block is possible as a whole: let each owner take its block as soon as
    its window and the block before allow. This is not behind the latest slot of the block, and that is not behind the
    window: where a window ends, its server has an entry of this block or a higher one, and up to the higher one all
    blocks have their latest slots before this entry.
    """

    def __init__(self, log):
        self.sight = sight_of(log)
        self.spans = self.sight.whole_spans()
        self.first_slots = self.sight.earliest_slots()
        self.last_slots = self.sight.latest_slots()

    def slots_in(self, index, server):
        """The tuple (first, last) of the slots of a server for each block of a span, or None."""
        found = self.sight.window_of(server, self.spans[index][0])
        if found is None:
            return None
        first = max(found[0], self.first_slots[index])
        last = min(found[1], self.last_slots[index])
        if first > last:
            return None
        return (first, last)

    def owners_in(self, index):
        """The servers that can have taken each block of a span, in the sequence of the servers."""
        return [name for name in self.sight.names if self.slots_in(index, name) is not None]

    def first_owner_in(self, index):
        """A server that can have taken each block of a span in its earliest slot."""
        slot = self.first_slots[index]
        return [name for name in self.owners_in(index) if self.slots_in(index, name)[0] == slot][0]


def owners_of(log, block):
    """The servers that can have taken a block, in the sequence of the servers."""
    check_asked(log, block)
    reach = Reach(log)
    return reach.owners_in(reach.sight.span_index(block))


def slots_of(log, server, block):
    """The tuple (first, last) of the slots in which a server can have taken a block, or None."""
    check_server(log.servers, server)
    check_asked(log, block)
    reach = Reach(log)
    return reach.slots_in(reach.sight.span_index(block), server)


def sure_owner(log, block):
    """The only server that can have taken a block, or None if there are several."""
    found = owners_of(log, block)
    if len(found) > 1:
        return None
    return found[0]


def stretches(log):
    """Yield tuples (first, last, owners) of neighbouring blocks with the same possible owners, from block 0 to M."""
    check_possible(log)
    rows = joined_spans(Reach(log))
    for row in rows:
        yield row


def joined_spans(reach):
    """The tuples (first, last, owners) of the spans; neighbours with the same owners are one."""
    rows = []
    for index, (first, last) in enumerate(reach.spans):
        names = reach.owners_in(index)
        if rows and rows[-1][2] == names:
            former = rows.pop()
            rows.append((former[0], last, names))
        else:
            rows.append((first, last, names))
    return rows
