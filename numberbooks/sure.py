"""Sure numbers: what is used in every history of a log, and which block can be the last one of a server."""

from numberbooks.checks import check_server, is_natural
from numberbooks.logs import LosingLog
from numberbooks.owners import Reach
from numberbooks.walks import check_asked, check_possible


def is_sure(log, number):
    """Whether the number is used in all histories that show the log."""
    ranges = sure_numbers(log)
    return is_natural(number) and any([first <= number <= last for first, last in ranges])


def sure_numbers(log):
    """The ascending list of the tuples (first, last) of sure numbers, as few as possible."""
    check_possible(log)
    # The numbers of a block ascend in a possible log, so that the last one seen is the greatest one.
    greatest = {number // log.size: number for _, number in log.entries}
    reach = Reach(log)
    ranges = []
    for (first, last), is_open in zip(reach.spans, open_spans(log, reach)):
        low = first * log.size
        high = last * log.size + log.size - 1
        if is_open:
            # Blocks of which nothing is seen have no sure number then.
            high = greatest.get(first, low - 1)
        if low <= high:
            ranges.append((low, high))
    return joined(ranges)


def joined(ranges):
    """The ranges, with neighbours put together."""
    found = []
    for first, last in ranges:
        if found and found[-1][1] == first - 1:
            former = found.pop()
            found.append((former[0], last))
        else:
            found.append((first, last))
    return found


def open_spans(log, reach):
    """For each span whether its blocks can be left with numbers that are not used."""
    if log.KIND == LosingLog.KIND:
        return [True for _ in reach.spans]
    return [names != [] for names in ending_servers(reach)]


def can_end(log, server, block):
    """Whether the server took the block and no later one up to M in some history that shows the log."""
    check_server(log.servers, server)
    check_asked(log, block)
    reach = Reach(log)
    return server in ending_servers(reach)[reach.sight.span_index(block)]


def ending_servers(reach):
    """For each span the servers that can take one of its blocks, whichever, and then no later one up to M.

    The owners of the blocks do not depend on one another (see Reach), so that only the sure owner of a later block
    cannot end. A sure owner of a hidden span is also that of the seen block behind it.
    """
    found = []
    going_on = {}
    for index in reversed(range(len(reach.spans))):
        names = reach.owners_in(index)
        found.append([name for name in names if name not in going_on])
        if len(names) == 1:
            going_on[names[0]] = True
    return found[::-1]
