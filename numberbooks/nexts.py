"""Nexts: which entry can follow the last one of a log."""

from numberbooks.checks import check_server, is_natural
from numberbooks.owners import Reach
from numberbooks.sure import ending_servers, joined
from numberbooks.walks import check_possible, find_obstacle


def can_follow(log, server, number):
    """Whether the log with this entry more is possible; a log of 200 entries is asked, too."""
    check_server(log.servers, server)
    check_possible(log)
    if not is_natural(number):
        return False
    return find_obstacle(log.size, log.servers, log.entries + [(server, number)]) is None


def next_numbers(log, server):
    """The ascending list of the tuples (first, last) of the numbers that can follow; last is None in the last one."""
    check_server(log.servers, server)
    check_possible(log)
    # The numbers of a server ascend in a possible log.
    following = max([number + 1 for name, number in log.entries if name == server], default=0)
    reach = Reach(log)
    ranges = []
    for (first, last), names in zip(reach.spans, ending_servers(reach)):
        low = max(first * log.size, following)
        high = last * log.size + log.size - 1
        if server in names and low <= high:
            ranges.append((low, high))
    ranges.append(((log.last_block() + 1) * log.size, None))
    return joined(ranges)
