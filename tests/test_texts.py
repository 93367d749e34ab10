"""Texts of logs and of events (points 2 and 14)."""

import inspect
import random
import re
import unittest

from numberbooks import texts
from numberbooks.errors import InvalidText
from numberbooks.histories import History, history_for
from numberbooks.logs import Log, LosingLog
from numberbooks.texts import read_events, read_log, write_events, write_log
from tests.objects import IMPOSSIBLE
from tests.raising import Raising
from tests.tried import random_entries

BOTH = (Log, LosingLog)
SERVERS = ["ann", "bob"]
TWELVE = list("abcdefghijkl")
GREAT = 10 ** 60 - 1
LOG_TEXT = "steady 100 ann,bob ann:5 bob:230"


def plain_log_word(text):
    """The number of the first word that cannot stand there, the number of words if all can, None for a log's text.

    This reads the words with patterns; the package does not.
    """
    words = text.split(" ")
    for place, word in enumerate(words):
        if place == 0:
            fits = word in ("steady", "losing")
        elif place == 1:
            fits = re.fullmatch("[1-9][0-9]{0,30}", word) is not None and int(word) <= 10 ** 30
        elif place == 2:
            names = word.split(",")
            fits = re.fullmatch("[a-z]{1,8}(,[a-z]{1,8}){0,11}", word) is not None and len(set(names)) == len(names)
        else:
            found = re.fullmatch("([a-z]*):(0|[1-9][0-9]{0,59})", word)
            fits = found is not None and found.group(1) in words[2].split(",") and place < 203
        if not fits:
            return place
    return len(words) if len(words) < 3 else None


def plain_events_word(text):
    """The same for the text of events."""
    if text == "-":
        return None
    for place, word in enumerate(text.split(" ")):
        if place == 0 and word == "-":
            return 1
        if re.fullmatch("[+]?[a-z]{1,8}", word) is None or place >= 1000:
            return place
    return None


def changed_texts(words, others):
    """The texts with one word changed, left out, put in or doubled, or two words changed with one another."""
    for place in range(len(words)):
        yield " ".join(words[:place] + words[place + 1:])
        yield " ".join(words[:place] + [words[place]] + words[place:])
        yield " ".join(words[:place])
        for other in range(place):
            yield " ".join(words[:other] + [words[place]] + words[other + 1:place] + [words[other]] + words[place + 1:])
        for word in others:
            yield " ".join(words[:place] + [word] + words[place + 1:])
    for place in range(len(words) + 1):
        for word in others:
            yield " ".join(words[:place] + [word] + words[place:])


class Texts(Raising):
    def refused(self, read, text, word):
        found = self.raises(InvalidText, read, text).word
        self.assertEqual((found, found.__class__), (word, int), text)


class Interface(Texts):
    def test_functions_stand_in_the_file(self):
        for call, names in ((write_log, ["log"]), (read_log, ["text"]), (write_events, ["history"]),
                            (read_events, ["text"])):
            self.assertEqual(call.__module__, "numberbooks.texts")
            self.assertEqual(list(inspect.signature(call).parameters), names)
            self.assertTrue(inspect.isfunction(getattr(texts, call.__name__)))

    def test_by_name(self):
        log = read_log(text=LOG_TEXT)
        self.assertEqual(write_log(log=log), LOG_TEXT)
        history = History(1, ["ann"], read_events(text="+ann ann"))
        self.assertEqual(write_events(history=history), "+ann ann")


class LogTexts(Texts):
    def check(self, log, text):
        self.assertEqual(write_log(log), text)
        found = read_log(text)
        self.assertEqual(found, log)
        self.assertIs(found.__class__, log.__class__)
        self.assertIsNone(plain_log_word(text))

    def test_ordinary(self):
        entries = [("ann", 5), ("bob", 230)]
        self.check(Log(100, SERVERS, entries), LOG_TEXT)
        self.check(LosingLog(100, SERVERS, entries), "losing 100 ann,bob ann:5 bob:230")
        self.check(Log(100, ["bob", "ann"], entries), "steady 100 bob,ann ann:5 bob:230")

    def test_no_entries(self):
        self.check(Log(1, ["a"], []), "steady 1 a")
        self.check(LosingLog(10 ** 30, TWELVE, []), "losing 1" + "0" * 30 + " a,b,c,d,e,f,g,h,i,j,k,l")

    def test_possible_or_not(self):
        for make in BOTH:
            for entries in IMPOSSIBLE:
                log = make(10, SERVERS, entries)
                words = [f"{name}:{number}" for name, number in entries]
                self.check(log, " ".join([log.KIND, "10", "ann,bob"] + words))

    def test_numbers(self):
        for number in (0, 9, 10, 10 ** 59, GREAT):
            self.check(Log(7, ["abcdefgh"], [("abcdefgh", number)]), f"steady 7 abcdefgh abcdefgh:{number}")

    def test_200_entries(self):
        for make in BOTH:
            log = make(10 ** 30, TWELVE, [(TWELVE[k % 12], GREAT - k) for k in range(200)])
            text = write_log(log)
            self.check(log, text)
            self.refused(read_log, text + " a:5", 203)
            self.refused(read_log, text + " ", 203)
            self.refused(read_log, text + " a:5 b:6 ?", 203)
            self.refused(read_log, text.replace(" c:", " m:", 1) + " a:5", 5)

    def test_random_logs(self):
        chance = random.Random(14)
        for _ in range(300):
            size = chance.choice((1, 2, 10, 10 ** 30, chance.randint(1, 10 ** 30)))
            servers = chance.sample(["a", "bo", "cyd", "abcdefgh", "z", "ann", "bob"], chance.randint(1, 7))
            entries = [(chance.choice(servers), chance.randint(0, 10 ** chance.randint(0, 60) - 1))
                       for _ in range(chance.randint(0, 20))]
            log = chance.choice(BOTH)(size, servers, entries)
            words = [log.KIND, str(size), ",".join(servers)] + [name + ":" + str(number) for name, number in entries]
            self.check(log, " ".join(words))

    def test_read_logs_are_new(self):
        one = read_log(LOG_TEXT)
        one.entries.clear()
        one.servers.clear()
        self.assertEqual(read_log(LOG_TEXT), Log(100, SERVERS, [("ann", 5), ("bob", 230)]))
        self.assertIsNot(read_log(LOG_TEXT), read_log(LOG_TEXT))


class WrongLogTexts(Texts):
    def test_too_short(self):
        self.refused(read_log, "", 0)
        self.refused(read_log, "steady", 1)
        self.refused(read_log, "losing 5", 2)
        self.assertEqual(read_log("losing 5 a"), LosingLog(5, ["a"], []))

    def test_blanks_and_newlines(self):
        for text, word in ((" ", 0), ("  ", 0), (" steady 100 ann", 0), ("steady ", 1), ("steady  100 ann", 1),
                           ("steady 100 ", 2), ("steady 100  ann", 2), ("steady 100 ann ", 3), ("steady 100 ann  ", 3),
                           ("steady 100 ann  ann:5", 3), ("steady 100 ann ann:5 ", 4), ("\n", 0), ("steady\n", 0),
                           ("\nsteady 100 ann", 0), ("steady\n100 ann", 0), ("steady 100\nann", 1),
                           ("steady 100 ann\n", 2), ("steady 100 ann ann:5\n", 3), ("steady 100 ann\nann:5", 2),
                           ("steady 100 ann ann:5\nann:6", 3), ("steady 1\n0 ann", 1), ("steady\t100 ann", 0)):
            self.refused(read_log, text, word)

    def test_kinds(self):
        for kind in ("", "Steady", "STEADY", "stead", "steadyy", "log", "-", "?", "lost", "5", "ann", "steady,losing"):
            self.refused(read_log, kind + " 100 ann,bob ann:5", 0)
            self.refused(read_log, kind, 0)

    def test_sizes(self):
        for size in ("1", "9", "10", "9" * 30, "1" + "0" * 30):
            self.assertEqual(read_log(f"steady {size} a").size, int(size))
        for size in ("0", "00", "01", "-1", "+1", "1.0", "1e3", "1_0", "1,0", "", "a", "0x10", "1" + "0" * 29 + "1",
                     "1" + "0" * 31, "2" + "0" * 30, "9" * 60, "1" * 61, "1" * 4000, "0" * 4000, "steady", "100:",
                     "10 0"):
            self.refused(read_log, f"steady {size} ann,bob ann:5", 2 if size == "10 0" else 1)
            self.refused(read_log, f"losing {size}", 2 if size == "10 0" else 1)

    def test_servers(self):
        for names in ("", ",", "a,", ",a", "a,,b", "a,a", "b,a,b", "Ann", "ann1", "abcdefghi", "a,abcdefghi", "a;b",
                      "a:5", ",".join(TWELVE + ["m"]), "-", "+a", "a_b", "a.b", "100", "a,B", "a,b,c,a"):
            self.refused(read_log, "steady 100 " + names, 2)
            self.refused(read_log, f"losing 100 {names} a:5 ?", 2)

    def test_entries(self):
        wrong = ("", "ann", "ann:", ":5", ":", "5", "5:ann", "cy:5", "an:5", "annn:5", "Ann:5", "ann:05", "ann:00",
                 "ann:-1", "ann:+1", "ann:5:6", "ann::5", "ann:5,", "ann,5", "ann:5a", "ann:1" + "0" * 60,
                 "ann:" + "9" * 61, "ann:" + "1" * 4000, "ann:1_0", "ann,bob:5", "-", "?", "+ann", "steady", "bob")
        for word in wrong:
            self.refused(read_log, "steady 100 ann,bob " + word, 3)
            self.refused(read_log, "losing 100 ann,bob ann:5 " + word + " bob:230", 4)
            self.refused(read_log, "losing 100 ann,bob ann:5 bob:6 " + word + " ?", 5)
        for word in ("ann:0", "bob:5", "ann:" + "9" * 60, "bob:1" + "0" * 59):
            name, _, number = word.partition(":")
            self.assertEqual(read_log("steady 100 ann,bob " + word).entries, [(name, int(number))])

    def test_the_first_of_several(self):
        self.refused(read_log, "steady 0 Ann ann", 1)
        self.refused(read_log, "x 0 Ann ann", 0)
        self.refused(read_log, "steady 1 Ann ann", 2)
        self.refused(read_log, "steady 1 ann ann:5 ann bob", 4)

    def test_changed_texts(self):
        others = ["", "-", "steady", "losing", "1", "0", "007", "ann", "ann,bob", "bob,ann", "cy", "ann:5", "bob:0",
                  "cy:5", "ann:05", "+ann", "?", "\n", "ann:5\n", "steady\n"]
        seen = {}
        for words in (LOG_TEXT.split(" "), ["losing", "1", "ann"], ["losing", "7", "bob", "bob:3", "bob:4", "bob:0"]):
            for text in changed_texts(words, others):
                self.check_text(text, seen)
        self.assertEqual(sorted(seen), [0, 1, 2, 3, 4, 5, 6])

    def check_text(self, text, seen):
        word = plain_log_word(text)
        if word is None:
            self.assertEqual(write_log(read_log(text)), text)
        else:
            self.refused(read_log, text, word)
            seen[word] = True

    def test_changed_characters(self):
        seen = {}
        for text in (LOG_TEXT, "losing 10 a,b b:0"):
            for place in range(len(text) + 1):
                for sign in [""] + list(" \n:,+-0a1A?"):
                    self.check_text(text[:place] + sign + text[place:], seen)
                    self.check_text(text[:place] + sign + text[place + 1:], seen)
        self.assertGreater(len(seen), 4)


class EventTexts(Texts):
    def check(self, history, text):
        self.assertEqual(write_events(history), text)
        self.assertEqual(read_events(text), history.events)
        self.assertIsNone(plain_events_word(text))

    def test_ordinary(self):
        self.check(History(2, SERVERS, [("take", "bob"), ("use", "bob"), ("take", "ann"), ("use", "ann")]),
                   "+bob bob +ann ann")
        self.check(History(1, ["abcdefgh"], [("take", "abcdefgh")]), "+abcdefgh")

    def test_no_events(self):
        for size, servers in ((1, ["a"]), (10 ** 30, TWELVE)):
            self.check(History(size, servers, []), "-")

    def test_allowed_or_not(self):
        self.assertEqual(read_events("ann"), [("use", "ann")])
        self.assertEqual(read_events("+ann +ann"), [("take", "ann")] * 2)
        self.assertEqual(read_events("take use +use"), [("use", "take"), ("use", "use"), ("take", "use")])
        # No list of servers is given, and more than twelve are an example of what is not allowed.
        self.assertEqual(read_events(" ".join(TWELVE + ["m"])), [("use", name) for name in TWELVE + ["m"]])

    def test_1000_events(self):
        events = [("take", "abcdefgh")] + [("use", "abcdefgh")] * 999
        text = "+abcdefgh" + " abcdefgh" * 999
        self.check(History(10 ** 30, ["abcdefgh"], events), text)
        self.refused(read_events, text + " abcdefgh", 1000)
        self.refused(read_events, text + " +a a a", 1000)
        self.refused(read_events, text + " ", 1000)
        self.refused(read_events, text + " -", 1000)
        self.refused(read_events, "-" + text, 0)
        self.refused(read_events, text.replace(" ", "  ", 1), 1)

    def test_histories_for_logs(self):
        chance = random.Random(41)
        for _ in range(100):
            servers = ["c", "a", "b"][:chance.randint(1, 3)]
            entries = random_entries(chance, 2, servers, chance.randint(0, 6), 5)
            try:
                history = history_for(chance.choice(BOTH)(2, servers, entries))
            except ValueError:
                continue
            words = [{"take": "+", "use": ""}[kind] + name for kind, name in history.events]
            self.check(history, " ".join(words) if words else "-")
            self.assertEqual(History(2, servers, read_events(write_events(history))).events, history.events)

    def test_lists_are_new(self):
        read_events("-").append(1)
        self.assertEqual(read_events("-"), [])
        read_events("+a").clear()
        self.assertEqual(read_events("+a"), [("take", "a")])


class WrongEventTexts(Texts):
    def test_wrong(self):
        for text, word in (("", 0), (" ", 0), ("\n", 0), ("+", 0), ("++a", 0), ("+ a", 0), ("a+", 0), ("- ", 1),
                           ("- -", 1), ("- a", 1), ("-  ", 1), ("--", 0), (" -", 0), ("a -", 1), ("+a a -", 2),
                           ("a - a", 1), ("-a", 0), ("+-", 0), ("a ", 1), ("a  a", 1), (" a", 0), ("a\n", 0),
                           ("a\na", 0), ("-\n", 0), ("A", 0), ("a1", 0), ("abcdefghi", 0), ("+abcdefghi", 0),
                           ("a abcdefghi b", 1), ("a,b", 0), ("a:5", 0), ("+a a +a ?", 3), ("a" * 4000, 0),
                           ("+a b c +d e F g -", 5), ("0", 0), ("a 5 a", 1)):
            self.refused(read_events, text, word)
            self.assertEqual(plain_events_word(text), word)

    def test_changed_texts(self):
        others = ["", "-", "+", "a", "+a", "ann", "++a", "A", "\n", "a\n", "a:5", "abcdefghi", "-a", "+-"]
        for words in (["+a", "a", "+bob", "a", "bob"], ["-"], ["ann"]):
            for text in changed_texts(words, others):
                word = plain_events_word(text)
                if word is None:
                    found = read_events(text)
                    told = [{"take": "+", "use": ""}[kind] + name for kind, name in found]
                    self.assertEqual(" ".join(told) if told else "-", text)
                else:
                    self.refused(read_events, text, word)


if __name__ == "__main__":
    unittest.main()
