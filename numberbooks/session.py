"""Sessions: lines that are put to a live log, and the answers to them."""

from numberbooks.errors import BookError, InvalidText
from numberbooks.live import new_live
from numberbooks.nexts import can_follow, next_numbers
from numberbooks.owners import owners_of
from numberbooks.sure import sure_numbers
from numberbooks.texts import is_number_text, read_log, write_log

DONE = "ok"
NOT_UNDERSTOOD = "?"
NO_RANGES = "-"


def see_entry(live, server, number):
    """The answer to a line see S N."""
    live.see(server, number)
    return DONE


def tell_can(live, server, number):
    """The answer to a line can S N."""
    if can_follow(live.now(), server, number):
        return "yes"
    return "no"


def tell_next(live, server):
    """The answer to a line next S; there are always numbers that can follow."""
    return " ".join([write_range(first, last) for first, last in next_numbers(live.now(), server)])


def tell_owners(live, block):
    """The answer to a line owners B; each block has an owner."""
    return " ".join(owners_of(live.now(), block))


def tell_sure(live):
    """The answer to a line sure."""
    ranges = sure_numbers(live.now())
    if ranges == []:
        return NO_RANGES
    return " ".join([write_range(first, last) for first, last in ranges])


def tell_text(live):
    """The answer to a line text."""
    return write_log(live.now())


def undo_entry(live):
    """The answer to a line undo."""
    live.undo()
    return DONE


def make_mark(live):
    """The answer to a line mark."""
    return str(live.mark())


def go_back(live, index):
    """The answer to a line back I."""
    live.undo_to(index)
    return DONE


# What makes the answer to a line with this word, and what stands behind the word in the line.
ANSWERS = {
    "see": see_entry,
    "can": tell_can,
    "next": tell_next,
    "owners": tell_owners,
    "sure": tell_sure,
    "text": tell_text,
    "undo": undo_entry,
    "mark": make_mark,
    "back": go_back,
}
PLACES = {
    "see": ("server", "number"),
    "can": ("server", "number"),
    "next": ("server",),
    "owners": ("number",),
    "sure": (),
    "text": (),
    "undo": (),
    "mark": (),
    "back": ("number",),
}


class Talk:
    """A session that goes on; live is its live log, None before the first log line that is read."""

    def __init__(self):
        self.live = None

    def answer(self, row):
        """The answer to a line."""
        words = row.split(" ")
        if "" in words:
            return NOT_UNDERSTOOD
        if words[0] == "log" and len(words) == 4:
            return self.begin(words[1:])
        if self.live is None or not is_line(words[0], words[1:]):
            return NOT_UNDERSTOOD
        return answer_line(self.live, words[0], words[1:])

    def begin(self, words):
        """The answer to a log line with these three words behind log."""
        try:
            log = read_log(" ".join(words))
        except InvalidText as error:
            return type(error).__name__
        self.live = new_live(log.KIND, log.size, log.servers)
        return DONE


def is_line(word, rest):
    """Whether a word and the ones behind it are a line that is put to a live log."""
    if word not in PLACES or len(rest) != len(PLACES[word]):
        return False
    return all([place == "server" or is_number_text(part) for place, part in zip(PLACES[word], rest)])


def answer_line(live, word, rest):
    """The answer to such a line."""
    action = ANSWERS[word]
    given = [read_part(place, part) for place, part in zip(PLACES[word], rest)]
    try:
        return action(live, *given)
    except BookError as error:
        return type(error).__name__


def read_part(place, part):
    """The argument that a word of a line stands for; any word may stand for a server."""
    if place == "number":
        return int(part)
    return part


def write_range(first, last):
    """The word of a range of numbers, which has no last one if last is None."""
    if last is None:
        return f"{first}.."
    return f"{first}..{last}"


def session(rows):
    """The answers to the lines of a string, one line for each."""
    talk = Talk()
    return "\n".join([talk.answer(row) for row in rows.split("\n")])
