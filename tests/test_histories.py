"""Histories, and those that show a log (points 2, 3 and 9)."""

import inspect
import unittest

from numberbooks import histories
from numberbooks.errors import InvalidEvents, InvalidServers, InvalidSize, NotPossible, TooLarge
from numberbooks.histories import History, history_for
from numberbooks.logs import Log, LosingLog
from numberbooks.walks import obstacle
from tests.objects import IMPOSSIBLE, any_objects
from tests.raising import Raising
from tests.tried import is_part, plain_uses

BOTH = (Log, LosingLog)
SERVERS = ["ann", "bob"]
TWELVE = list("abcdefghijkl")
EVENTS = [("take", "bob"), ("use", "bob"), ("take", "ann"), ("use", "bob"), ("use", "ann"), ("take", "bob"),
          ("use", "bob")]
USES = [("bob", 0), ("bob", 1), ("ann", 2), ("bob", 4)]
GREAT = 10 ** 60 - 1


def small():
    return History(2, SERVERS, EVENTS)


class Interface(Raising):
    def test_they_stand_in_the_file(self):
        self.assertEqual((History.__module__, history_for.__module__), ("numberbooks.histories",) * 2)
        self.assertEqual(list(inspect.signature(History).parameters), ["size", "servers", "events"])
        self.assertEqual(list(inspect.signature(history_for).parameters), ["log"])
        self.assertTrue(inspect.isfunction(histories.history_for))
        for name in ("size", "servers", "events", "uses", "owners", "__call__"):
            self.assertIn(name, vars(History))

    def test_by_name(self):
        history = History(events=EVENTS, servers=SERVERS, size=2)
        self.assertEqual(history.events, EVENTS)
        self.assertIs(history(thing=Log(2, SERVERS, [])), True)
        self.assertEqual(history_for(log=Log(2, SERVERS, [])).events, [])
        self.raises(InvalidSize, History, events=None, servers=None, size=None)


class Made(Raising):
    def test_ordinary(self):
        history = small()
        self.assertEqual((history.size, history.servers, history.events), (2, SERVERS, EVENTS))
        self.assertEqual(list(history.uses()), USES)
        self.assertEqual(history.owners(), ["bob", "ann", "bob"])

    def test_no_events(self):
        for size, servers in ((1, ["a"]), (10 ** 30, TWELVE)):
            history = History(size, servers, [])
            self.assertEqual((history.size, history.servers, history.events), (size, servers, []))
            self.assertEqual((list(history.uses()), history.owners()), ([], []))

    def test_size_1(self):
        events = [("take", "a"), ("use", "a"), ("take", "a"), ("take", "b"), ("use", "b"), ("use", "a")]
        history = History(1, ["b", "a"], events)
        self.assertEqual(list(history.uses()), [("a", 0), ("b", 2), ("a", 1)])
        self.assertEqual(history.owners(), ["a", "a", "b"])

    def test_greatest_size(self):
        history = History(10 ** 30, TWELVE, [("take", name) for name in TWELVE] + [("use", "l")] * 2)
        self.assertEqual(list(history.uses()), [("l", 11 * 10 ** 30), ("l", 11 * 10 ** 30 + 1)])
        self.raises(InvalidEvents, History, 10 ** 30, TWELVE, [("take", "a"), ("use", "a"), ("take", "a")])

    def test_events_in_the_wrong_place(self):
        for size, events in ((1, [("use", "ann")]), (1, [("take", "ann"), ("take", "ann")]),
                             (1, [("take", "ann"), ("use", "bob")]),
                             (1, [("take", "ann"), ("use", "ann"), ("use", "ann")]),
                             (2, [("take", "ann"), ("use", "ann"), ("take", "ann")]),
                             (2, [("take", "ann"), ("use", "ann"), ("use", "ann"), ("use", "ann")]),
                             (2, EVENTS + [("take", "bob")]), (2, EVENTS + [("use", "bob"), ("use", "bob")])):
            self.raises(InvalidEvents, History, size, SERVERS, events)
        for event in (("take", "ann"), ("use", "bob"), ("use", "ann")):
            if event != ("take", "ann"):
                self.assertEqual(len(History(2, SERVERS, EVENTS + [event]).events), 8)
            else:
                self.raises(InvalidEvents, History, 2, SERVERS, EVENTS + [event])

    def test_1000_events_and_one_more(self):
        events = [("take", "ann")] + [("use", "ann")] * 999
        self.assertEqual(len(list(History(999, SERVERS, events).uses())), 999)
        self.raises(InvalidEvents, History, 1000, SERVERS, events + [("use", "ann")])
        pairs = [("take", "bob"), ("use", "bob")] * 500
        self.assertEqual(History(1, SERVERS, pairs).owners(), ["bob"] * 500)
        self.raises(InvalidEvents, History, 1, SERVERS, pairs + [("take", "bob")])
        self.raises(InvalidEvents, History, 1, SERVERS, [("take", "bob")] * 4000)

    def test_sizes_and_servers(self):
        for size in (0, -1, 10 ** 30 + 1, True, False, None, "10", [10], (10,), {"a": 1}, small()):
            self.raises(InvalidSize, History, size, SERVERS, [])
        for servers in ([], TWELVE + ["m"], ["a", "a"], [""], ["abcdefghi"], ["Ann"], [True], ("a",), "ann", None, 1,
                        {"ann": 1}, Log(1, ["a"], []), small(), [small()]):
            self.raises(InvalidServers, History, 10, servers, [])

    def test_wrong_events(self):
        wrong = [None, 0, True, "", "take", (), (("take", "ann"),), {}, {"take": "ann"}, small(), [None], [True], [[]],
                 [()], ["take"], ["ta"], [("take",)], [("take", "ann", 0)], [["take", "ann"]], [("ann", "take")],
                 [("take", "cy")], [("take", "an")], [("take", "")], [("take", None)], [("take", True)],
                 [("take", ["ann"])], [("take", ("ann",))], [("Take", "ann")], [("tak", "ann")], [("", "ann")],
                 [(True, "ann")], [(1, "ann")], [(None, "ann")], [(["take"], "ann")], [({}, "ann")], [("lose", "ann")],
                 [("take", "ann"), ("use", True)], [("take", "ann"), ("use", 1)], [("take", "ann"), None],
                 [("take", small())], [(small(), "ann")], [Log(1, ["a"], [])], [(Log(1, ["a"], []), "ann")],
                 [("take", "ann"), ("lose", "ann")], [0] * 4000]
        for events in wrong:
            self.raises(InvalidEvents, History, 10, SERVERS, events)

    def test_any_object_in_each_place(self):
        fit = 0
        for thing in any_objects() + [small()]:
            for place, kind in enumerate((InvalidSize, InvalidServers, InvalidEvents)):
                given = [10, ["ann"], [("take", "ann")]]
                given[place] = thing
                try:
                    History(*given)
                    fit = fit + 1
                except (InvalidSize, InvalidServers, InvalidEvents) as error:
                    self.assertIs(error.__class__, kind)
        # size 1; servers ["ann"]; events []
        self.assertEqual(fit, 3)

    def test_the_first_wrong_argument_decides(self):
        for size in (0, True, None):
            for servers in ([], ("ann",), ["ann"], None):
                for events in (None, [("use", "ann")], []):
                    self.raises(InvalidSize, History, size, servers, events)
        for servers in ([], ("ann",), ["ann", "ann"], None):
            for events in (None, [("use", "ann")], []):
                self.raises(InvalidServers, History, 1, servers, events)

    def test_lists_are_new(self):
        servers = list(SERVERS)
        events = list(EVENTS)
        history = History(2, servers, events)
        self.assertEqual((servers, events), (SERVERS, EVENTS))
        servers.append("cy")
        events.clear()
        for made in (history.servers, history.events, history.owners(), list(history.uses())):
            made.clear()
        self.assertEqual((history.servers, history.events), (SERVERS, EVENTS))
        self.assertEqual((history.owners(), list(history.uses())), (["bob", "ann", "bob"], USES))
        self.assertIsNot(history.servers, history.servers)
        self.assertIsNot(history.events, history.events)
        self.assertIsNot(history.owners(), history.owners())

    def test_uses_may_be_left_early(self):
        history = small()
        one = iter(history.uses())
        self.assertEqual((next(one), next(one)), (USES[0], USES[1]))
        self.assertEqual(list(history.uses()), USES)
        self.assertEqual(list(one), USES[2:])

    def test_compared_by_identity(self):
        history = small()
        self.assertIs(history == history, True)
        self.assertIs(history == small(), False)
        self.assertIs(history != small(), True)
        self.assertEqual(len({history: 1, small(): 2}), 2)
        for thing in any_objects():
            self.assertIs(history == thing, False)


class Shown(Raising):
    def test_ordinary(self):
        history = small()
        for make in BOTH:
            for entries in ([], [("bob", 0)], [("bob", 4)], USES, [("bob", 1), ("ann", 2)], [("bob", 0), ("bob", 4)]):
                self.assertIs(history(make(2, SERVERS, entries)), True)
            for entries in ([("ann", 0)], [("bob", 2)], [("bob", 5)], [("bob", 0), ("bob", 0)], USES[::-1],
                            [("ann", 2), ("bob", 1)], USES + [("bob", 5)], USES + USES, [("ann", 3)],
                            [("bob", GREAT)]):
                self.assertIs(history(make(2, SERVERS, entries)), False)

    def test_other_sizes_and_servers(self):
        history = small()
        for make in BOTH:
            for entries in ([], [("bob", 0)]):
                self.assertIs(history(make(2, SERVERS, entries)), True)
                for size, servers in ((3, SERVERS), (1, SERVERS), (2, ["bob", "ann"]), (2, ["bob"]),
                                      (2, SERVERS + ["cy"])):
                    self.assertIs(history(make(size, servers, entries)), False)

    def test_any_object(self):
        history = small()
        for thing in any_objects() + [history, USES, EVENTS, SERVERS, [Log(2, SERVERS, [])], (Log(2, SERVERS, []),)]:
            self.assertIs(history(thing), False)
        empty = History(1, ["ann"], [])
        found = [thing for thing in any_objects() if empty(thing)]
        self.assertEqual(found, [LosingLog(1, ["ann"], [])])

    def test_losing_logs_and_no_entries(self):
        for size in (1, 10 ** 30):
            history = History(size, TWELVE, [])
            self.assertIs(history(Log(size, TWELVE, [])), True)
            self.assertIs(history(LosingLog(size, TWELVE, [])), True)
            self.assertIs(history(LosingLog(size, TWELVE, [("a", 0)])), False)

    def test_200_entries(self):
        history = History(300, ["a"], [("take", "a")] + [("use", "a")] * 250)
        for make in BOTH:
            self.assertIs(history(make(300, ["a"], [("a", k) for k in range(50, 250)])), True)
            self.assertIs(history(make(300, ["a"], [("a", k) for k in range(51, 251)])), False)


class Explained(Raising):
    def check(self, log):
        history = history_for(log)
        self.assertIs(history.__class__, History)
        self.assertEqual((history.size, history.servers), (log.size, log.servers))
        uses = plain_uses(log.size, log.servers, history.events)
        self.assertEqual(list(history.uses()), uses)
        self.assertTrue(is_part(log.entries, uses))
        self.assertIs(history(log), True)
        self.assertLessEqual(len(history.events), 1000)
        again = History(history.size, history.servers, history.events)
        self.assertIs(again(log), True)
        self.assertEqual(history_for(log).events, history.events)
        return history

    def test_ordinary(self):
        for make in BOTH:
            history = self.check(make(10, SERVERS, [("ann", 12), ("bob", 35), ("ann", 51)]))
            self.assertEqual(history.owners()[1::2], ["ann", "bob", "ann"])
            self.check(make(100, SERVERS, [("ann", 5), ("bob", 230), ("ann", 310)]))
            self.check(make(1, ["a", "b"], [("b", 4), ("a", 2), ("b", 9), ("a", 7)]))
            self.check(make(2, ["a"], [("a", 1), ("a", 2), ("a", 100)]))
            self.check(make(3, TWELVE, [(TWELVE[k % 12], 3 * k + 1) for k in range(200)]))

    def test_no_entries(self):
        for make in BOTH:
            for size in (1, 10 ** 30):
                self.assertIs(history_for(make(size, TWELVE, []))(make(size, TWELVE, [])), True)

    def test_edges_of_too_large(self):
        for make in BOTH:
            for size, greatest in ((999, 0), (499, 1), (1, 499), (4, 199), (124, 7)):
                self.assertEqual((greatest + 1) * (size + 1), 1000)
                for number in (greatest * size, greatest * size + size - 1):
                    self.check(make(size, ["a"], [("a", number)]))
                    self.check(make(size, SERVERS, [("bob", number)]))
            for size, greatest in ((1000, 0), (6, 142), (142, 6), (10, 90), (90, 10), (76, 12)):
                self.assertEqual((greatest + 1) * (size + 1), 1001)
                for number in (greatest * size, greatest * size + size - 1):
                    self.raises(TooLarge, history_for, make(size, ["a"], [("a", number)]))
            self.raises(TooLarge, history_for, make(10 ** 30, TWELVE, [("a", 0)]))
            self.raises(TooLarge, history_for, make(1, TWELVE, [("a", GREAT)]))

    def test_not_possible_comes_first(self):
        for make in BOTH:
            for entries in IMPOSSIBLE:
                for more in ([], [("cy", GREAT)]):
                    log = make(10, SERVERS + ["cy"], entries + more)
                    if obstacle(log) is not None:
                        self.assertEqual(self.raises(NotPossible, history_for, log).obstacle, obstacle(log))
            log = make(10 ** 30, SERVERS, [("ann", GREAT), ("ann", GREAT)])
            self.assertEqual(self.raises(NotPossible, history_for, log).obstacle, ("twice", 0, 1))

    def test_the_log_stays_the_same(self):
        log = Log(10, SERVERS, [("ann", 12), ("bob", 35)])
        history_for(log).events.clear()
        self.assertEqual(log, Log(10, SERVERS, [("ann", 12), ("bob", 35)]))


if __name__ == "__main__":
    unittest.main()
