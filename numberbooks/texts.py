"""Texts: logs and lists of events as words between single blanks, each in exactly one way."""

from numberbooks.checks import MOST_DIGITS, MOST_ENTRIES, MOST_EVENTS, are_servers, is_name, is_size
from numberbooks.errors import InvalidText
from numberbooks.logs import Log, LosingLog, new_log

# The kind, the size and the servers stand before the entries.
HEAD_WORDS = 3
NO_EVENTS = "-"


def write_log(log):
    """The text of a log."""
    words = [log.KIND, str(log.size), ",".join(log.servers)]
    words.extend([f"{server}:{number}" for server, number in log.entries])
    return " ".join(words)


def read_log(text):
    """The log of a text."""
    words = text.split(" ")
    check_words(words, stands_in_log)
    if len(words) < HEAD_WORDS:
        raise InvalidText(len(words))
    entries = [read_entry(word) for word in words[HEAD_WORDS:]]
    return new_log(words[0], int(words[1]), words[2].split(","), entries)


def write_events(history):
    """The text of the events of a history."""
    words = [write_event(kind, server) for kind, server in history.events]
    if words == []:
        return NO_EVENTS
    return " ".join(words)


def read_events(text):
    """The list of the events of a text, allowed or not."""
    words = text.split(" ")
    check_words(words, stands_in_events)
    if words == [NO_EVENTS]:
        return []
    return [read_event(word) for word in words]


def check_words(words, can_stand):
    """Raise InvalidText with the number of the first word that cannot stand there, if there is one."""
    for place in range(len(words)):
        if not can_stand(words, place):
            raise InvalidText(place)


def stands_in_log(words, place):
    """Whether a word can stand there in the text of a log after the ones before it, which can."""
    word = words[place]
    if place == 0:
        return word in (Log.KIND, LosingLog.KIND)
    if place == 1:
        return is_number_text(word) and is_size(int(word))
    if place == 2:
        return are_servers(word.split(","))
    return place < HEAD_WORDS + MOST_ENTRIES and is_entry_text(words[2].split(","), word)


def stands_in_events(words, place):
    """Whether a word can stand there in the text of events after the ones before it, which can."""
    if words[0] == NO_EVENTS:
        return place == 0
    _, server = read_event(words[place])
    return place < MOST_EVENTS and is_name(server)


def is_number_text(word):
    """Whether a word is a number: one to sixty digits without leading zeros."""
    if not 1 <= len(word) <= MOST_DIGITS or not word.isascii() or not word.isdigit():
        return False
    return word == "0" or not word.startswith("0")


def is_entry_text(servers, word):
    """Whether a word is an entry of one of these servers."""
    server, _, number = word.partition(":")
    return server in servers and is_number_text(number)


def read_entry(word):
    """The entry of a word."""
    server, _, number = word.partition(":")
    return (server, int(number))


def write_event(kind, server):
    """The word of an event."""
    if kind == "take":
        return "+" + server
    return server


def read_event(word):
    """The event of a word."""
    if word.startswith("+"):
        return ("take", word[1:])
    return ("use", word)
