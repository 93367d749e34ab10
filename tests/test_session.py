"""Sessions (points 2 and 15)."""

import inspect
import random
import re
import unittest

from numberbooks import session as module
from numberbooks.errors import BookError
from numberbooks.live import LiveLog, LiveLosingLog
from numberbooks.nexts import can_follow, next_numbers
from numberbooks.owners import owners_of
from numberbooks.session import session
from numberbooks.sure import sure_numbers
from numberbooks.texts import write_log

GREAT = 10 ** 60 - 1
NUMBER = "(0|[1-9][0-9]{0,59})"
LINES = (("log", "log ([^ ]+) ([^ ]+) ([^ ]+)"), ("see", "see ([^ ]+) " + NUMBER), ("can", "can ([^ ]+) " + NUMBER),
         ("next", "next ([^ ]+)"), ("owners", "owners " + NUMBER), ("sure", "sure"), ("text", "text"),
         ("undo", "undo"), ("mark", "mark"), ("back", "back " + NUMBER))


class Plain:
    """The calls that the lines of a session stand for, one by one."""

    def __init__(self):
        self.live = None

    def answer(self, row):
        for name, pattern in LINES:
            found = re.fullmatch(pattern, row)
            if found is not None and (name == "log" or self.live is not None):
                try:
                    said = getattr(self, "do_" + name)(*found.groups())
                except BookError as error:
                    said = error.__class__.__name__
                return "ok" if said is None else str(said)
        return "?"

    def do_log(self, kind, size, servers):
        names = servers.split(",")
        fits = kind in ("steady", "losing") and re.fullmatch("[1-9][0-9]{0,30}", size) and int(size) <= 10 ** 30
        if not fits or len(set(names)) < len(names) or not 1 <= len(names) <= 12:
            return "InvalidText"
        if not all([re.fullmatch("[a-z]{1,8}", name) for name in names]):
            return "InvalidText"
        self.live = {"steady": LiveLog, "losing": LiveLosingLog}[kind](int(size), names)
        return None

    def do_see(self, server, number):
        return self.live.see(server, int(number))

    def do_can(self, server, number):
        return {True: "yes", False: "no"}[can_follow(self.live.now(), server, int(number))]

    def do_next(self, server):
        rows = next_numbers(self.live.now(), server)
        return " ".join([f"{first}.." if last is None else f"{first}..{last}" for first, last in rows])

    def do_owners(self, block):
        return " ".join(owners_of(self.live.now(), int(block)))

    def do_sure(self):
        return " ".join([f"{first}..{last}" for first, last in sure_numbers(self.live.now())]) or "-"

    def do_text(self):
        return write_log(self.live.now())

    def do_undo(self):
        return self.live.undo()

    def do_mark(self):
        return self.live.mark()

    def do_back(self, index):
        return self.live.undo_to(int(index))


class Sessions(unittest.TestCase):
    def check(self, pairs):
        """Each pair is a line and its answer."""
        rows = "\n".join([row for row, _ in pairs])
        self.assertEqual(session(rows).split("\n"), [answer for _, answer in pairs])
        plain = Plain()
        self.assertEqual([plain.answer(row) for row, _ in pairs], [answer for _, answer in pairs])

    def check_rows(self, rows):
        plain = Plain()
        expected = [plain.answer(row) for row in rows]
        self.assertEqual(session("\n".join(rows)), "\n".join(expected))
        return expected


class Ordinary(Sessions):
    def test_interface(self):
        self.assertEqual(session.__module__, "numberbooks.session")
        self.assertEqual(list(inspect.signature(session).parameters), ["rows"])
        self.assertTrue(inspect.isfunction(module.session))
        self.assertEqual(session(rows="log steady 1 a"), "ok")

    def test_one_line_of_each_kind(self):
        self.check([("log steady 100 ann,bob", "ok"), ("sure", "-"), ("next ann", "0.."),
                    ("text", "steady 100 ann,bob"),
                    ("see ann 5", "ok"), ("see bob 230", "ok"), ("can ann 6", "yes"), ("can ann 5", "no"),
                    ("can bob 199", "no"), ("next ann", "6..199 300.."), ("next bob", "231.."), ("owners 0", "ann"),
                    ("owners 1", "ann bob"), ("owners 2", "bob"), ("sure", "0..5 200..230"), ("mark", "0"),
                    ("see ann 310", "ok"), ("mark", "1"), ("sure", "0..230 300..310"),
                    ("text", "steady 100 ann,bob ann:5 bob:230 ann:310"), ("back 0", "ok"),
                    ("text", "steady 100 ann,bob ann:5 bob:230"), ("undo", "ok"), ("text", "steady 100 ann,bob ann:5"),
                    ("undo", "ok"), ("undo", "NothingToUndo"), ("text", "steady 100 ann,bob")])

    def test_losing(self):
        self.check([("log losing 10 a", "ok"), ("see a 5", "ok"), ("see a 25", "ok"), ("sure", "0..5 20..25"),
                    ("text", "losing 10 a a:5 a:25"), ("log steady 10 a", "ok"), ("see a 5", "ok"), ("see a 25", "ok"),
                    ("sure", "0..25"), ("text", "steady 10 a a:5 a:25")])

    def test_each_error(self):
        self.check([("log steady 10 ann,bob", "ok"), ("see ann 5", "ok"), ("see bob 6", "NotPossible"),
                    ("see ann 5", "NotPossible"), ("see cy 6", "InvalidServer"), ("can cy 6", "InvalidServer"),
                    ("next cy", "InvalidServer"), ("owners 1", "InvalidBlock"), ("back 0", "InvalidNumber"),
                    ("mark", "0"), ("back 1", "InvalidNumber"), ("undo", "ok"), ("undo", "NothingToUndo"),
                    ("owners 0", "InvalidBlock"), ("back 0", "InvalidNumber"), ("mark", "0"), ("back 0", "ok"),
                    ("text", "steady 10 ann,bob")])

    def test_any_word_as_server(self):
        for word in ("Ann", "ann,bob", "5", "-", "?", "ann:5", "+ann", "a" * 3000, "see", "0", "..", "ann\t"):
            self.check([("log steady 10 ann,bob", "ok"), (f"see {word} 5", "InvalidServer"),
                        (f"can {word} 5", "InvalidServer"), (f"next {word}", "InvalidServer"),
                        ("text", "steady 10 ann,bob")])

    def test_an_error_changes_nothing(self):
        self.check([("log steady 10 ann,bob", "ok"), ("see ann 5", "ok"), ("mark", "0"), ("see bob 5", "NotPossible"),
                    ("see ann 5", "NotPossible"), ("back 7", "InvalidNumber"), ("owners 9", "InvalidBlock"),
                    ("log steady 0 ann", "InvalidText"), ("log", "?"), ("text", "steady 10 ann,bob ann:5"),
                    ("mark", "1"), ("back 0", "ok"), ("text", "steady 10 ann,bob ann:5"), ("undo", "ok")])

    def test_great_numbers(self):
        self.check([("log steady 1" + "0" * 30 + " a,b", "ok"), (f"see a {GREAT}", "ok"), (f"can a {GREAT}", "no"),
                    (f"can b {GREAT - 10 ** 30}", "yes"), (f"owners {10 ** 30 - 1}", "a"),
                    (f"owners {10 ** 30}", "InvalidBlock"), (f"owners {GREAT}", "InvalidBlock"),
                    ("next a", f"{10 ** 60}.."),
                    ("sure", f"{10 ** 60 - 10 ** 30}..{GREAT}"), (f"back {GREAT}", "InvalidNumber"),
                    ("text", "steady 1" + "0" * 30 + f" a,b a:{GREAT}")])

    def test_twelve_servers(self):
        names = "abcdefghijkl"
        self.check([("log losing 5 " + ",".join(names), "ok"), ("see l 7", "ok"), ("owners 0", " ".join(names)),
                    ("owners 1", "l"), ("next l", "8.."), ("next a", "0..4 10.."), ("sure", "5..7")])


class Lines(Sessions):
    def test_no_log_line_yet(self):
        for row in ("see ann 5", "can ann 5", "next ann", "owners 0", "sure", "text", "undo", "mark", "back 0", "",
                    "?"):
            self.check([(row, "?")])
            self.check([(row, "?"), ("log steady 0 ann", "InvalidText"), (row, "?"), ("log x", "?"), (row, "?"),
                        ("log steady 1 ann", "ok"), ("text", "steady 1 ann")])

    def test_empty_lines(self):
        self.assertEqual(session(""), "?")
        self.assertEqual(session("\n"), "?\n?")
        self.assertEqual(session("\n\n\n"), "?\n?\n?\n?")
        self.check([("", "?"), ("log steady 1 a", "ok"), ("", "?"), ("mark", "0"), ("", "?")])

    def test_empty_words(self):
        for row in (" ", "  ", " sure", "sure ", " text", "mark ", "undo ", "see  5", "see ann ", "see ann  5",
                    "see  ann 5", "see ann 5 ", " see ann 5", "can ann  5", "next ", "next  ann", "next ann ",
                    "owners ",
                    "owners  0", "owners 0 ", "back  0", "back 0 ", "log steady 1 ", "log  1 a", "log steady  a",
                    " log steady 1 a", "log steady 1 a ", "log  steady 1 a"):
            self.check([(row, "?"), ("log steady 10 ann", "ok"), ("mark", "0"), (row, "?"), ("text", "steady 10 ann"),
                        ("mark", "1")])

    def test_words_too_few_or_too_many(self):
        for row in ("log", "log steady", "log steady 1", "log steady 1 a a:5", "log steady 1 a b", "see", "see ann",
                    "see 5", "see ann 5 6", "can", "can ann", "can ann 5 6", "next", "next ann bob", "owners",
                    "owners 0 0", "sure 0", "sure ann", "text 0", "text text", "undo 0", "undo undo", "mark 0",
                    "mark mark", "back", "back 0 0"):
            self.check([(row, "?"), ("log steady 10 ann", "ok"), ("see ann 5", "ok"), ("mark", "0"), (row, "?"),
                        ("text", "steady 10 ann ann:5"), ("mark", "1")])

    def test_other_words(self):
        for row in ("?", "-", "ok", "Log steady 1 a", "LOG steady 1 a", "sees ann 5", "See ann 5", "SURE", "twin",
                    "now",
                    "undo_to 0", "ann", "0", "5 5", "logs steady 1 a", "count", "size", "owner 0", "can_follow ann 5",
                    "live", "len", "steady 10 ann", "sure\t", "text,"):
            self.check([(row, "?"), ("log steady 10 ann", "ok"), (row, "?"), ("text", "steady 10 ann")])

    def test_numbers(self):
        for number in ("", "00", "05", "-1", "-0", "+5", "5.0", "1e1", "1_0", "1,0", "0x5", "five", "1" + "0" * 60,
                       "9" * 61, "0" * 60, "1" * 3000, "5a", "?"):
            self.check([("log steady 10 ann", "ok"), ("see ann 5", "ok"), ("mark", "0"), ("see ann " + number, "?"),
                        ("can ann " + number, "?"), ("owners " + number, "?"), ("back " + number, "?"),
                        ("see cy " + number, "?"), ("can cy " + number, "?"), ("text", "steady 10 ann ann:5")])
        self.check([("log steady 10 ann", "ok"), ("can ann 0", "yes"), ("see ann 0", "ok"), ("owners 0", "ann"),
                    ("mark", "0"), ("back 0", "ok"), ("can ann " + "9" * 60, "yes"), ("see ann 1" + "0" * 59, "ok")])

    def test_log_lines_that_cannot_be_read(self):
        for words in ("x 1 a", "Steady 1 a", "steady 0 a", "steady 01 a", "steady -1 a", "steady a 1", "steady 1 A",
                      "steady 1 a,a", "steady 1 a,", "steady 1 a:5", "steady 1 abcdefghi",
                      "steady 1" + "0" * 29 + "1 a",
                      "steady 1 a,b,c,d,e,f,g,h,i,j,k,l,m", "- - -", "? ? ?", "log steady 1", "1 steady a"):
            self.check([("log " + words, "InvalidText"), ("sure", "?"), ("log losing 10 ann", "ok"),
                        ("see ann 5", "ok"), ("mark", "0"), ("log " + words, "InvalidText"),
                        ("text", "losing 10 ann ann:5"), ("mark", "1")])

    def test_a_later_log_line_begins_anew(self):
        self.check([("log steady 10 ann", "ok"), ("see ann 5", "ok"), ("mark", "0"), ("log losing 2 bob,ann", "ok"),
                    ("text", "losing 2 bob,ann"), ("back 0", "InvalidNumber"), ("undo", "NothingToUndo"), ("mark", "0"),
                    ("log losing 2 bob,ann", "ok"), ("mark", "0"), ("mark", "1"), ("sure", "-")])

    def test_undo_and_marks(self):
        self.check([("log steady 5 a", "ok"), ("mark", "0"), ("see a 0", "ok"), ("mark", "1"), ("see a 1", "ok"),
                    ("mark", "2"), ("undo", "ok"), ("back 2", "InvalidNumber"), ("back 1", "ok"),
                    ("text", "steady 5 a a:0"), ("undo", "ok"), ("back 1", "InvalidNumber"), ("mark", "1"),
                    ("see a 3", "ok"), ("back 0", "ok"), ("text", "steady 5 a"), ("mark", "1")])

    def test_200_lines(self):
        rows = ["log steady 1 a,b"] + [f"see {'ab'[k % 2]} {k}" for k in range(198)] + ["text"]
        self.assertEqual(len(rows), 200)
        answers = self.check_rows(rows)
        self.assertEqual(answers[:199], ["ok"] * 199)
        self.assertEqual(answers[199], "steady 1 a,b " + " ".join([f"{'ab'[k % 2]}:{k}" for k in range(198)]))
        self.assertEqual(session("\n".join(["mark"] * 200)), "\n".join(["?"] * 200))
        self.assertEqual(session("\n" * 199), "\n".join(["?"] * 200))

    def test_somewhat_more_than_200_lines(self):
        rows = ["log losing 1 a"] + [f"see a {k}" for k in range(205)]
        answers = self.check_rows(rows + ["sure", "next a", "owners 204", "can a 3", "text", "undo", "mark"])
        self.assertEqual(answers[:206], ["ok"] * 206)
        self.assertEqual(answers[206:210], ["0..204", "205..", "a", "no"])
        self.assertEqual(answers[210], "losing 1 a " + " ".join([f"a:{k}" for k in range(205)]))
        self.assertEqual(answers[211:], ["ok", "0"])

    def test_random_sessions(self):
        chance = random.Random(15)
        said = {}
        for _ in range(250):
            rows = []
            for _ in range(chance.randint(1, 60)):
                rows.append(self.random_row(chance))
            for answer in self.check_rows(rows):
                said[answer] = True
        self.assertLessEqual({"ok", "?", "-", "yes", "no", "0", "NotPossible", "NothingToUndo", "InvalidText",
                              "InvalidServer", "InvalidBlock", "InvalidNumber"}, set(said))

    def random_row(self, chance):
        server = chance.choice(["a", "b", "c", "a", "b", "d"])
        number = chance.choice([str(chance.randint(0, 12)), str(chance.randint(0, 40)), "2", "03"])
        row = chance.choice(["see S N"] * 8 + ["can S N", "next S", "owners N", "sure", "text", "undo", "mark",
                                              "back N", "back 0", "log K Z a,b,c", "log losing Z b,a", "see S",
                                              "sure N", ""])
        kind = chance.choice(["steady", "losing", "steady", "losing", "odd"])
        size = chance.choice(["1", "2", "5", "0"])
        row = row.replace("S", server).replace("N", number).replace("K", kind).replace("Z", size)
        if chance.randint(0, 30) == 0:
            row = row.replace(" ", "  ", 1)
        return row


if __name__ == "__main__":
    unittest.main()
