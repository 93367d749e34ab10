"""Live logs (points 2, 4 and 13)."""

import inspect
import itertools
import random
import unittest

from numberbooks.errors import BookError, InvalidNumber, InvalidServer, InvalidServers, InvalidSize, NotPossible
from numberbooks.errors import NothingToUndo
from numberbooks.live import LiveLog, LiveLosingLog
from numberbooks.logs import Log, LosingLog
from numberbooks.nexts import can_follow
from numberbooks.owners import owners_of
from numberbooks.walks import obstacle, shows_obstacle
from tests.objects import any_objects
from tests.raising import Raising

BOTH = ((LiveLog, Log), (LiveLosingLog, LosingLog))
SERVERS = ["ann", "bob"]
TWELVE = list("abcdefghijkl")
GREAT = 10 ** 60 - 1


def seen(make, entries, size=10, servers=SERVERS):
    live = make(size, servers)
    for server, number in entries:
        live.see(server, number)
    return live


class Live(Raising):
    def check(self, live, make_log, entries, size=10, servers=SERVERS):
        self.assertEqual(live.now(), make_log(size, servers, entries))
        self.assertIs(live.now().__class__, make_log)
        self.assertEqual(len(live), len(entries))


class Made(Live):
    def test_they_stand_in_the_file(self):
        self.assertEqual((LiveLog.__module__, LiveLosingLog.__module__), ("numberbooks.live",) * 2)
        self.assertEqual(LiveLosingLog.__bases__, (LiveLog,))
        for make, _ in BOTH:
            self.assertEqual(list(inspect.signature(make).parameters), ["size", "servers"])
        for name, parameters in (("see", ["self", "server", "number"]), ("now", ["self"]), ("undo", ["self"]),
                                 ("mark", ["self"]), ("undo_to", ["self", "index"]), ("__len__", ["self"]),
                                 ("twin", ["self"])):
            self.assertEqual(list(inspect.signature(vars(LiveLog)[name]).parameters), parameters)
        self.assertNotIn("__eq__", vars(LiveLog))

    def test_by_name(self):
        for make, make_log in BOTH:
            live = make(servers=SERVERS, size=10)
            live.see(number=7, server="bob")
            self.assertEqual(live.mark(), 0)
            live.undo_to(index=0)
            self.check(live, make_log, [("bob", 7)])
            self.raises(InvalidSize, make, servers=None, size=None)

    def test_no_entries_at_first(self):
        for make, make_log in BOTH:
            for size in (1, 10, 10 ** 30):
                for servers in (["a"], TWELVE, ["bob", "ann"]):
                    self.check(make(size, servers), make_log, [], size, servers)

    def test_any_object_in_each_place(self):
        fit = []
        for make, _ in BOTH:
            for thing in any_objects():
                for place, kind in enumerate((InvalidSize, InvalidServers)):
                    given = [10, ["ann"]]
                    given[place] = thing
                    try:
                        make(*given)
                        fit.append(thing)
                    except BookError as error:
                        self.assertIs(error.__class__, kind)
        self.assertEqual(fit, [1, ["ann"]] * 2)

    def test_sizes_and_servers(self):
        for make, _ in BOTH:
            for size in (0, -1, 10 ** 30 + 1, True, False, "10", None):
                for servers in (SERVERS, [], None):
                    self.raises(InvalidSize, make, size, servers)
            for servers in ([], TWELVE + ["m"], ["a", "a"], ["A"], ["abcdefghi"], ["a", ""], ("a",), "a", [["a"]]):
                self.raises(InvalidServers, make, 10, servers)

    def test_compared_by_identity(self):
        for make, _ in BOTH:
            one = make(10, SERVERS)
            self.assertIs(one == one, True)
            self.assertIs(one == make(10, SERVERS), False)
            self.assertIs(one == one.twin(), False)
            self.assertIs(one != one.twin(), True)
            for thing in any_objects():
                self.assertIs(one == thing, False)

    def test_lists_of_the_caller_do_not_matter_later(self):
        servers = list(SERVERS)
        live = LiveLog(10, servers)
        servers.clear()
        live.see("bob", 3)
        log = live.now()
        log.servers.clear()
        log.entries.clear()
        self.check(live, Log, [("bob", 3)])
        self.raises(InvalidServer, live.see, "cy", 4)


class See(Live):
    def test_ordinary(self):
        for make, make_log in BOTH:
            live = make(100, SERVERS)
            for k, (server, number) in enumerate([("ann", 5), ("bob", 230), ("ann", 310)]):
                self.assertIs(live.see(server, number), None)
                self.assertEqual(len(live), k + 1)
            self.check(live, make_log, [("ann", 5), ("bob", 230), ("ann", 310)], 100)

    def test_now_does_not_change_later(self):
        for make, make_log in BOTH:
            live = seen(make, [("ann", 5)])
            before = live.now()
            live.see("ann", 6)
            live.undo()
            live.undo()
            self.assertEqual(before, make_log(10, SERVERS, [("ann", 5)]))
            self.assertEqual(len(live), 0)

    def test_each_kind_of_obstacle(self):
        for make, make_log in BOTH:
            for entries, entry, kind in (([("ann", 5)], ("ann", 5), "twice"), ([("ann", 5)], ("bob", 6), "shared"),
                                         ([("ann", 25)], ("ann", 15), "back"), ([("ann", 25)], ("ann", 24), "back"),
                                         ([("bob", 25), ("ann", 5)], ("ann", 15), "pushed")):
                live = seen(make, entries)
                refused = make_log(10, SERVERS, entries + [entry])
                found = self.raises(NotPossible, live.see, *entry).obstacle
                self.assertEqual(found, obstacle(refused))
                self.assertEqual(found[0], kind)
                self.assertIs(shows_obstacle(refused, found), True)
                self.check(live, make_log, entries)

    def test_wrong_arguments_in_sequence(self):
        for make, make_log in BOTH:
            live = seen(make, [("ann", 5)])
            for thing in any_objects() + ["cy", "an", "ann\n", ["ann"], ("ann",)]:
                if thing != "ann":
                    for number in (-1, 5, 6, GREAT):
                        self.raises(InvalidServer, live.see, thing, number)
            for number in (-1, -5, -GREAT):
                self.raises(InvalidNumber, live.see, "ann", number)
                self.raises(InvalidNumber, live.see, "bob", number)
            self.check(live, make_log, [("ann", 5)])

    def test_great_numbers(self):
        for make, make_log in BOTH:
            live = seen(make, [("ann", 0), ("bob", GREAT)], 10 ** 30)
            self.check(live, make_log, [("ann", 0), ("bob", GREAT)], 10 ** 30)
            self.raises(NotPossible, live.see, "ann", GREAT)
            live.see("ann", GREAT - 10 ** 30)
            self.assertEqual(len(live), 3)

    def test_200_entries(self):
        for make, make_log in BOTH:
            entries = [(TWELVE[k % 12], k * 10 ** 57) for k in range(200)]
            live = seen(make, entries, 10 ** 20, TWELVE)
            self.check(live, make_log, entries, 10 ** 20, TWELVE)
            found = self.raises(NotPossible, live.see, "a", 199 * 10 ** 57).obstacle
            self.assertEqual(found, ("twice", 199, 200))
            self.assertEqual(self.raises(NotPossible, live.see, "b", 1).obstacle[0], "shared")
            self.assertEqual(self.raises(NotPossible, live.see, "b", 10 ** 30).obstacle, ("back", 193, 200))
            self.assertIs(can_follow(live.now(), "a", 199 * 10 ** 57 - 1), True)
            self.check(live, make_log, entries, 10 ** 20, TWELVE)
            live.undo()
            self.check(live, make_log, entries[:199], 10 ** 20, TWELVE)

    def test_somewhat_more_than_200_entries(self):
        for make, make_log in BOTH:
            live = make(1, ["a"])
            for number in range(210):
                self.assertIs(live.see("a", number), None)
            log = live.now()
            self.assertEqual((len(live), len(log), log.__class__), (210, 210, make_log))
            self.assertEqual(log.entries, [("a", number) for number in range(210)])
            self.assertEqual(owners_of(log, 209), ["a"])
            for _ in range(10):
                live.undo()
            self.assertEqual(live.now(), make_log(1, ["a"], [("a", number) for number in range(200)]))

    def test_against_logs_entry_by_entry(self):
        chance = random.Random(13)
        refused = {}
        for make, make_log in BOTH:
            for _ in range(60):
                size = chance.choice((1, 2, 3, 10))
                servers = ["bob", "ann", "cy"][:chance.randint(1, 3)]
                live = make(size, servers)
                entries = []
                for _ in range(25):
                    entry = (chance.choice(servers), chance.randint(0, 8 * size))
                    log = make_log(size, servers, entries + [entry])
                    found = obstacle(log)
                    self.assertIs(can_follow(live.now(), *entry), found is None)
                    if found is None:
                        live.see(*entry)
                        entries.append(entry)
                    else:
                        self.assertEqual(self.raises(NotPossible, live.see, *entry).obstacle, found)
                        refused[found[0]] = True
                    self.check(live, make_log, entries, size, servers)
        self.assertEqual(sorted(refused), ["back", "pushed", "shared", "twice"])


class Undo(Live):
    def test_ordinary(self):
        for make, make_log in BOTH:
            live = seen(make, [("ann", 5), ("bob", 25), ("ann", 7)])
            self.assertIs(live.undo(), None)
            self.check(live, make_log, [("ann", 5), ("bob", 25)])
            live.see("ann", 6)
            self.check(live, make_log, [("ann", 5), ("bob", 25), ("ann", 6)])
            for _ in range(3):
                live.undo()
            self.check(live, make_log, [])
            self.raises(NothingToUndo, live.undo)
            self.check(live, make_log, [])

    def test_nothing_to_undo(self):
        for make, make_log in BOTH:
            live = make(10, SERVERS)
            self.raises(NothingToUndo, live.undo)
            self.assertEqual(live.mark(), 0)
            self.raises(NothingToUndo, live.undo)
            # The mark is still there.
            self.assertEqual(live.mark(), 1)
            self.raises(NotPossible, seen(make, [("ann", 5)]).see, "ann", 5)
            self.check(live, make_log, [])

    def test_a_refused_entry_is_not_undone(self):
        for make, make_log in BOTH:
            live = seen(make, [("ann", 5), ("ann", 6)])
            live.mark()
            self.raises(NotPossible, live.see, "ann", 6)
            self.assertEqual(live.mark(), 1)
            live.undo()
            self.check(live, make_log, [("ann", 5)])

    def test_undo_removes_the_marks_behind_it(self):
        for make, make_log in BOTH:
            live = make(10, SERVERS)
            self.assertEqual([live.mark(), live.mark()], [0, 1])
            live.see("ann", 5)
            self.assertEqual([live.mark(), live.mark()], [2, 3])
            live.see("ann", 6)
            self.assertEqual(live.mark(), 4)
            live.undo()
            self.raises(InvalidNumber, live.undo_to, 4)
            self.check(live, make_log, [("ann", 5)])
            live.undo()
            for index in (2, 3, 4):
                self.raises(InvalidNumber, live.undo_to, index)
            self.assertEqual(live.mark(), 2)
            live.undo_to(1)
            self.check(live, make_log, [])


class Marks(Live):
    def test_ordinary(self):
        for make, make_log in BOTH:
            live = seen(make, [("ann", 5)])
            self.assertEqual(live.mark(), 0)
            live.see("bob", 25)
            self.assertEqual(live.mark(), 1)
            live.see("bob", 26)
            live.see("ann", 6)
            self.assertIs(live.undo_to(1), None)
            self.check(live, make_log, [("ann", 5), ("bob", 25)])
            # The mark is kept, and may be used again.
            live.see("ann", 6)
            live.undo_to(1)
            self.check(live, make_log, [("ann", 5), ("bob", 25)])
            live.undo_to(0)
            self.check(live, make_log, [("ann", 5)])
            self.raises(InvalidNumber, live.undo_to, 1)
            self.assertEqual(live.mark(), 1)

    def test_later_marks_of_the_same_entries_are_removed(self):
        for make, make_log in BOTH:
            live = seen(make, [("ann", 5)])
            self.assertEqual([live.mark(), live.mark(), live.mark()], [0, 1, 2])
            live.undo_to(1)
            self.raises(InvalidNumber, live.undo_to, 2)
            self.assertEqual(live.mark(), 2)
            live.undo_to(0)
            self.assertEqual(live.mark(), 1)
            self.check(live, make_log, [("ann", 5)])

    def test_invalid_numbers(self):
        for make, make_log in BOTH:
            live = make(10, SERVERS)
            for index in (0, 1, -1, GREAT, -GREAT):
                self.raises(InvalidNumber, live.undo_to, index)
            live.mark()
            live.see("ann", 5)
            live.mark()
            for index in (2, -1, -2, GREAT, -GREAT):
                self.raises(InvalidNumber, live.undo_to, index)
            self.check(live, make_log, [("ann", 5)])
            self.assertEqual(live.mark(), 2)

    def test_200_marks(self):
        live = LiveLog(10, SERVERS)
        self.assertEqual([live.mark() for _ in range(200)], list(range(200)))
        live.undo_to(199)
        live.undo_to(0)
        self.raises(InvalidNumber, live.undo_to, 1)


class Twins(Live):
    def test_of_the_same_class(self):
        for make, make_log in BOTH:
            live = seen(make, [("ann", 5)])
            other = live.twin()
            self.assertIsNot(other, live)
            self.assertIs(other.__class__, make)
            self.assertIs(other.twin().twin().__class__, make)
            self.check(other, make_log, [("ann", 5)])
            self.check(make(1, ["a"]).twin(), make_log, [], 1, ["a"])

    def test_independent(self):
        for make, make_log in BOTH:
            live = seen(make, [("ann", 5)])
            live.mark()
            live.see("bob", 25)
            live.mark()
            other = live.twin()
            live.see("ann", 6)
            live.mark()
            other.undo()
            other.see("bob", 35)
            other.see("bob", 36)
            self.check(live, make_log, [("ann", 5), ("bob", 25), ("ann", 6)])
            self.check(other, make_log, [("ann", 5), ("bob", 35), ("bob", 36)])
            self.assertEqual((live.mark(), other.mark()), (3, 1))
            live.undo_to(1)
            self.check(live, make_log, [("ann", 5), ("bob", 25)])
            self.check(other, make_log, [("ann", 5), ("bob", 35), ("bob", 36)])
            other.undo_to(0)
            self.check(other, make_log, [("ann", 5)])
            self.raises(InvalidNumber, other.undo_to, 1)
            live.undo_to(1)
            self.check(live, make_log, [("ann", 5), ("bob", 25)])

    def test_a_twin_has_its_marks(self):
        for make, make_log in BOTH:
            live = make(10, SERVERS)
            live.mark()
            live.see("ann", 5)
            live.mark()
            live.see("ann", 6)
            other = live.twin()
            for _ in range(2):
                live.undo()
            self.assertEqual(live.mark(), 1)
            self.check(other, make_log, [("ann", 5), ("ann", 6)])
            other.undo_to(1)
            self.check(other, make_log, [("ann", 5)])
            other.undo_to(0)
            self.check(other, make_log, [])


class PlainList:
    """A live log as the plain list of the calls that were made and not undone."""

    def __init__(self):
        self.calls = []

    def places(self, kind):
        return [place for place, (name, _) in enumerate(self.calls) if name == kind]

    def call(self, name, given, is_possible):
        """What the call returns, or the name of its error."""
        if name == "see":
            if not is_possible(self.entries() + [given]):
                return "NotPossible"
            self.calls.append((name, given))
            return None
        if name == "mark":
            self.calls.append((name, given))
            return len(self.places("mark")) - 1
        if name == "undo":
            if not self.places("see"):
                return "NothingToUndo"
            self.calls = self.calls[:self.places("see")[-1]]
            return None
        if not 0 <= given < len(self.places("mark")):
            return "InvalidNumber"
        self.calls = self.calls[:self.places("mark")[given] + 1]
        return None

    def entries(self):
        return [given for name, given in self.calls if name == "see"]


def call_live(live, name, given):
    """What the call returns, or the name of its error."""
    try:
        if name == "see":
            return live.see(*given)
        if name == "undo_to":
            return live.undo_to(given)
        return {"undo": live.undo, "mark": live.mark}[name]()
    except BookError as error:
        return error.__class__.__name__


class AgainstAPlainList(Live):
    def check_calls(self, make, make_log, size, calls):
        """Make the calls one after another; before each of them a twin is taken and used otherwise."""
        live = make(size, SERVERS)
        plain = PlainList()
        for name, given in calls:
            twin = live.twin()
            before = plain.entries()
            said = call_live(live, name, given)
            told = plain.call(name, given, lambda entries: obstacle(make_log(size, SERVERS, entries)) is None)
            self.assertEqual((said, said.__class__), (told, told.__class__), calls)
            self.assertEqual((live.now().entries, len(live)), (plain.entries(), len(plain.entries())), calls)
            self.assertEqual(twin.now().entries, before, calls)
            self.assertEqual(call_live(twin, name, given), told, calls)
            self.assertEqual((twin.mark(), twin.now()), (len(plain.places("mark")), live.now()), calls)

    def test_every_sequence_of_a_few_calls(self):
        calls = [("see", ("ann", 1)), ("see", ("bob", 2)), ("undo", None), ("mark", None), ("undo_to", 0),
                 ("undo_to", 1)]
        for make, make_log in BOTH:
            for some in itertools.product(calls, repeat=5):
                self.check_calls(make, make_log, 2, some)

    def test_every_longer_sequence_without_a_refused_entry(self):
        for some in itertools.product("sumbc", repeat=6):
            calls = []
            for place, word in enumerate(some):
                calls.append({"s": ("see", ("ann", place)), "u": ("undo", None), "m": ("mark", None),
                              "b": ("undo_to", 0), "c": ("undo_to", 1)}[word])
            self.check_calls(LiveLosingLog, LosingLog, 2, calls)

    def test_200_calls(self):
        chance = random.Random(200)
        for make, make_log in BOTH:
            for _ in range(6):
                calls = []
                for _ in range(200):
                    name = chance.choice(("see", "see", "see", "see", "see", "undo", "mark", "mark", "undo_to"))
                    given = {"see": (chance.choice(SERVERS), len(calls) + chance.randint(-3, 9)),
                             "undo_to": chance.randint(0, 12)}.get(name)
                    calls.append((name, given))
                calls = [call for call in calls if call[0] != "see" or call[1][1] >= 0]
                self.check_calls(make, make_log, 5, calls)


if __name__ == "__main__":
    unittest.main()
