"""What arguments have to be, and the errors for those that are something else."""

from numberbooks.errors import InvalidBlock, InvalidEntries, InvalidEvents, InvalidNumber, InvalidServer
from numberbooks.errors import InvalidServers, InvalidSize

GREATEST_SIZE = 10 ** 30
MOST_SERVERS = 12
MOST_LETTERS = 8
MOST_ENTRIES = 200
MOST_EVENTS = 1000
MOST_DIGITS = 60


def is_integer(thing):
    """Whether any object is an integer; Python counts True and False among them, the package does not."""
    return isinstance(thing, int) and not isinstance(thing, bool)


def is_natural(thing):
    """Whether any object is an integer from 0 on."""
    return is_integer(thing) and thing >= 0


def is_size(thing):
    """Whether any object is a size: an integer from 1 to 10 ** 30."""
    return is_integer(thing) and 1 <= thing <= GREATEST_SIZE


def is_name(thing):
    """Whether any object is a name of a server: one to eight lowercase letters."""
    if not isinstance(thing, str) or len(thing) > MOST_LETTERS:
        return False
    return thing.isascii() and thing.isalpha() and thing.islower()


def are_servers(thing):
    """Whether any object is a list of servers: 1 to 12 different names."""
    if not isinstance(thing, list) or not 1 <= len(thing) <= MOST_SERVERS:
        return False
    return all([is_name(name) for name in thing]) and len(set(thing)) == len(thing)


def is_server(servers, thing):
    """Whether any object is one of these servers."""
    return isinstance(thing, str) and thing in servers


def is_entry(servers, thing):
    """Whether any object is a tuple (server, number) with one of these servers."""
    if not isinstance(thing, tuple) or len(thing) != 2:
        return False
    server, number = thing
    return is_server(servers, server) and is_natural(number)


def is_event(servers, thing):
    """Whether any object is a tuple ("take", server) or ("use", server) with one of these servers."""
    if not isinstance(thing, tuple) or len(thing) != 2:
        return False
    kind, server = thing
    return isinstance(kind, str) and kind in ("take", "use") and is_server(servers, server)


def check_size(size):
    """Raise InvalidSize if any object is no size."""
    if not is_size(size):
        raise InvalidSize("a size is an integer from 1 to 10 ** 30")


def check_servers(servers):
    """Raise InvalidServers if any object is no list of servers."""
    if not are_servers(servers):
        raise InvalidServers("servers are a list of 1 to 12 different names, each of one to eight lowercase letters")


def check_entries(servers, entries):
    """Raise InvalidEntries if any object is no list of entries of these servers."""
    if not isinstance(entries, list) or len(entries) > MOST_ENTRIES:
        raise InvalidEntries("entries are a list of 0 to 200 tuples")
    if not all([is_entry(servers, entry) for entry in entries]):
        raise InvalidEntries("an entry is a tuple of one of the servers and an integer from 0 on")


def check_events(servers, events):
    """Raise InvalidEvents if any object is no list of events of these servers, allowed in their places or not."""
    if not isinstance(events, list) or len(events) > MOST_EVENTS:
        raise InvalidEvents("events are a list of 0 to 1,000 tuples")
    if not all([is_event(servers, event) for event in events]):
        raise InvalidEvents("an event is a tuple of take or use and one of the servers")


def check_server(servers, server):
    """Raise InvalidServer if any object is none of these servers."""
    if not is_server(servers, server):
        raise InvalidServer("there is no such server")


def check_number(number):
    """Raise InvalidNumber for a negative number."""
    if not is_natural(number):
        raise InvalidNumber("a number is an integer from 0 on")


def check_count(count, most):
    """Raise InvalidNumber for a count that is not from 0 to the greatest one."""
    if not is_natural(count) or count > most:
        raise InvalidNumber("there are not so many")


def check_block(block):
    """Raise InvalidBlock for a negative block."""
    if not is_natural(block):
        raise InvalidBlock("a block is an integer from 0 on")


def check_block_up_to(block, greatest):
    """Raise InvalidBlock for a block that is not from 0 to the greatest one."""
    if not is_natural(block) or block > greatest:
        raise InvalidBlock("there is no such block up to the greatest one seen")
