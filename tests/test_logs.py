"""Logs (points 2, 3 and 6)."""

import string
import unittest

from numberbooks import logs
from numberbooks.errors import InvalidEntries, InvalidLog, InvalidNumber, InvalidServer, InvalidServers, InvalidSize
from numberbooks.logs import Log, LosingLog
from tests.objects import any_objects
from tests.raising import Raising

BOTH = (Log, LosingLog)
SERVERS = ["ann", "bob"]
ENTRIES = [("ann", 5), ("bob", 230), ("ann", 5), ("ann", 0)]
TWELVE = list("abcdefghijkl")


def full(make=Log, count=200):
    return make(10, SERVERS, [(SERVERS[k % 2], k) for k in range(count)])


class Made(Raising):
    def test_kinds(self):
        self.assertEqual((Log.KIND, LosingLog.KIND), ("steady", "losing"))
        self.assertEqual((Log(1, ["a"], []).KIND, LosingLog(1, ["a"], []).KIND), ("steady", "losing"))
        self.assertEqual(LosingLog.__bases__, (Log,))
        self.assertEqual((Log.__module__, LosingLog.__module__), ("numberbooks.logs", "numberbooks.logs"))

    def test_methods_stand_in_the_class(self):
        for name in ("size", "servers", "entries", "__len__", "__add__", "__eq__", "__contains__", "with_entry",
                     "front", "last_block"):
            self.assertIn(name, vars(logs.Log))

    def test_properties(self):
        for make in BOTH:
            log = make(100, SERVERS, ENTRIES)
            self.assertEqual((log.size, log.servers, log.entries), (100, SERVERS, ENTRIES))
            self.assertEqual((log.servers.__class__, log.entries.__class__), (list, list))
            self.assertEqual(len(log), 4)

    def test_by_name(self):
        log = Log(entries=ENTRIES, servers=SERVERS, size=100)
        self.assertEqual(log, Log(100, SERVERS, ENTRIES))
        self.assertEqual(log.with_entry(number=7, server="bob").entries, ENTRIES + [("bob", 7)])
        self.assertEqual(log.front(count=1).entries, ENTRIES[:1])
        self.raises(InvalidSize, LosingLog, entries=None, servers=None, size=None)

    def test_no_entries_and_one_server(self):
        for make in BOTH:
            log = make(1, ["a"], [])
            self.assertEqual((log.entries, len(log), log.last_block()), ([], 0, -1))

    def test_sizes(self):
        for size in (1, 2, 10 ** 30 - 1, 10 ** 30):
            self.assertEqual(Log(size, SERVERS, []).size, size)
        for size in (0, -1, -(10 ** 30), 10 ** 30 + 1, 10 ** 59, True, False, None, "10", [10], (10,), {"a": 1}):
            for make in BOTH:
                self.raises(InvalidSize, make, size, SERVERS, [])

    def test_servers(self):
        for servers in (["a"], ["abcdefgh"], ["z", "a"], TWELVE, list(string.ascii_lowercase[14:]), ["aaaaaaaa", "a"]):
            self.assertEqual(LosingLog(5, servers, []).servers, servers)
        wrong = [[], TWELVE + ["m"], ["a", "a"], ["b", "a", "b"], [""], ["abcdefghi"], ["Ann"], ["an n"], ["ann\n"],
                 ["ann1"], ["a_b"], ["a,b"], ["a-b"], ["-"], [1], [True], [None], [["a"]], [("a",)], [{}], ["a", None],
                 ("a",), ("ann", "bob"), "ann", "a", {"ann": 1}, None, 1, True, Log(1, ["a"], []),
                 [Log(1, ["a"], [])], ["a"] * 4000, ["\n"], ["a\n"], [" a"], ["`"], ["{"], ["\u00e9"]]
        for servers in wrong:
            for make in BOTH:
                self.raises(InvalidServers, make, 10, servers, [])

    def test_entries(self):
        for entries in ([], [("ann", 0)], [("bob", 10 ** 60 - 1)], [("ann", 3), ("ann", 3)], [("ann", 3), ("bob", 3)],
                        [("ann", 9), ("ann", 8)], [("ann", 0)] * 200):
            self.assertEqual(Log(10, SERVERS, entries).entries, entries)
        log = Log(10, SERVERS, [])
        wrong = [("ann", 5), (("ann", 5),), "", {}, None, 0, True, log, {"ann": 5}, [None], ["ann"], [5], [()],
                 [("ann",)], [("ann", 5, 6)], [["ann", 5]], [(5, "ann")], [("cy", 5)], [("ann ", 5)], [("an", 5)],
                 [("", 5)], [(None, 5)], [(True, 5)], [(["ann"], 5)], [(("ann",), 5)], [(log, 5)], [("ann", -1)],
                 [("ann", -(10 ** 59))], [("ann", True)], [("ann", False)], [("ann", None)], [("ann", "5")],
                 [("ann", [5])], [("ann", log)], [("ann", {})], [log], [{}], [[]], ["a5"], "ab",
                 [("ann", 5), ("bob", 7), ("bob", -1)], [("ann", 5), None], [("ann", 0)] * 201, [("ann", 0)] * 4000]
        for entries in wrong:
            for make in BOTH:
                self.raises(InvalidEntries, make, 10, SERVERS, entries)

    def test_any_object_in_each_place(self):
        fit = 0
        for thing in any_objects():
            for make in BOTH:
                for place, kind in enumerate((InvalidSize, InvalidServers, InvalidEntries)):
                    given = [10, ["ann"], [("ann", 5)]]
                    given[place] = thing
                    try:
                        make(*given)
                        fit = fit + 1
                    except (InvalidSize, InvalidServers, InvalidEntries) as error:
                        self.assertIs(error.__class__, kind)
        # size 1; servers ["ann"]; entries [] and [("ann", 5)]; each for two classes
        self.assertEqual(fit, 8)

    def test_the_first_wrong_argument_decides(self):
        for make in BOTH:
            for size in (0, True, None):
                for servers in ([], ("ann",), ["ann"], None):
                    for entries in (None, [("cy", 1)], []):
                        self.raises(InvalidSize, make, size, servers, entries)
            for servers in ([], ("ann",), ["ann", "ann"], None):
                for entries in (None, [("cy", 1)], []):
                    self.raises(InvalidServers, make, 1, servers, entries)

    def test_lists_of_the_caller_do_not_matter_later(self):
        servers = list(SERVERS)
        entries = list(ENTRIES)
        log = Log(100, servers, entries)
        servers.append("cy")
        entries.clear()
        self.assertEqual((log.servers, log.entries, log.last_block()), (SERVERS, ENTRIES, 2))

    def test_arguments_are_not_modified(self):
        servers = ["bob", "ann"]
        entries = [("bob", 5), ("ann", 2)]
        Log(1, servers, entries)
        self.assertEqual((servers, entries), (["bob", "ann"], [("bob", 5), ("ann", 2)]))

    def test_returned_lists_are_new(self):
        servers = list(SERVERS)
        entries = list(ENTRIES)
        log = Log(100, servers, entries)
        self.assertIsNot(log.servers, servers)
        self.assertIsNot(log.servers, log.servers)
        self.assertIsNot(log.entries, entries)
        self.assertIsNot(log.entries, log.entries)
        log.servers.append("cy")
        log.entries.append(("ann", 1))
        self.assertEqual((log.servers, log.entries), (SERVERS, ENTRIES))

    def test_made_logs_share_no_lists(self):
        log = Log(100, SERVERS, ENTRIES)
        for other in (log.with_entry("ann", 1), log.front(2), log + log, log.front(4)):
            other.servers.clear()
            other.entries.clear()
            self.assertEqual((other.servers, log.servers, log.entries), (SERVERS, SERVERS, ENTRIES))


class Together(Raising):
    def test_entries_of_both(self):
        for make in BOTH:
            one = make(100, SERVERS, ENTRIES)
            other = make(100, SERVERS, [("bob", 1)])
            both = one + other
            self.assertIs(both.__class__, make)
            self.assertEqual((both.size, both.servers), (100, SERVERS))
            self.assertEqual(both.entries, ENTRIES + [("bob", 1)])
            self.assertEqual((other + one).entries, [("bob", 1)] + ENTRIES)
            self.assertEqual((one.entries, other.entries), (ENTRIES, [("bob", 1)]))

    def test_no_entries(self):
        none = Log(100, SERVERS, [])
        self.assertEqual((none + none).entries, [])
        self.assertEqual((none + Log(100, SERVERS, ENTRIES)).entries, ENTRIES)

    def test_up_to_200(self):
        for make in BOTH:
            self.assertEqual(len(full(make, 199) + full(make, 1)), 200)
            self.assertEqual(len(full(make) + full(make, 0)), 200)
            for one, other in ((200, 1), (1, 200), (200, 200), (101, 100)):
                self.raises(InvalidLog, full(make, one).__add__, full(make, other))

    def test_other_logs(self):
        steady = Log(100, SERVERS, [])
        losing = LosingLog(100, SERVERS, [])
        for one, other in ((steady, losing), (losing, steady), (steady, Log(99, SERVERS, [])),
                           (steady, Log(100, ["bob", "ann"], [])), (steady, Log(100, ["ann"], [])),
                           (losing, LosingLog(100, ["ann", "bob", "cy"], []))):
            with self.assertRaises(InvalidLog) as caught:
                one + other
            self.assertIs(caught.exception.__class__, InvalidLog)

    def test_any_object(self):
        for make in BOTH:
            log = make(7, SERVERS, ENTRIES)
            for thing in any_objects():
                with self.assertRaises(InvalidLog) as caught:
                    log + thing
                self.assertIs(caught.exception.__class__, InvalidLog)
            self.assertEqual(log.entries, ENTRIES)


class Compared(unittest.TestCase):
    def test_equal(self):
        for make in BOTH:
            self.assertIs(make(100, SERVERS, ENTRIES) == make(100, list(SERVERS), list(ENTRIES)), True)
            self.assertIs(make(100, SERVERS, ENTRIES) != make(100, SERVERS, ENTRIES), False)
            self.assertIs(make(1, ["a"], []) == make(1, ["a"], []), True)

    def test_different(self):
        log = Log(100, SERVERS, ENTRIES)
        others = [LosingLog(100, SERVERS, ENTRIES), Log(99, SERVERS, ENTRIES), Log(100, ["bob", "ann"], ENTRIES),
                  Log(100, SERVERS + ["cy"], ENTRIES), Log(100, SERVERS, ENTRIES[:3]), Log(100, SERVERS, []),
                  Log(100, SERVERS, ENTRIES[::-1]), Log(100, SERVERS, ENTRIES[:3] + [("ann", 1)])]
        for other in others:
            self.assertIs(log == other, False)
            self.assertIs(other == log, False)
            self.assertIs(log != other, True)

    def test_any_object(self):
        for make in BOTH:
            for thing in any_objects() + [ENTRIES, SERVERS]:
                self.assertIs(make(100, SERVERS, ENTRIES) == thing, False)
                self.assertIs(make(100, SERVERS, ENTRIES) != thing, True)

    def test_contains(self):
        for make in BOTH:
            log = make(100, SERVERS, [("ann", 1), ("bob", 0), ("ann", 10 ** 60 - 1)])
            for thing in (("ann", 1), ("bob", 0), ("ann", 10 ** 60 - 1)):
                self.assertIs(thing in log, True)
            for thing in (("ann", 0), ("bob", 1), ("cy", 1), ("ann", True), ("bob", False), ["ann", 1], ("ann",),
                          ("ann", 1, 1), (1, "ann"), ("ann", "1"), ("ann", None), (["ann"], 1), "ann", 1, (), [],
                          ("ann", log), (log, 1), [("ann", 1)], (("ann", 1),)):
                self.assertIs(thing in log, False)

    def test_contains_any_object(self):
        log = Log(100, SERVERS, [("ann", 5), ("ann", 1)])
        found = [thing for thing in any_objects() if thing in log]
        self.assertEqual(found, [("ann", 5)])
        self.assertEqual([thing for thing in any_objects() if thing in Log(100, SERVERS, [])], [])


class Continued(Raising):
    def test_with_entry(self):
        for make in BOTH:
            log = make(100, SERVERS, ENTRIES)
            for server, number in (("ann", 0), ("bob", 5), ("bob", 10 ** 60 - 1)):
                longer = log.with_entry(server, number)
                self.assertIs(longer.__class__, make)
                self.assertEqual((longer.size, longer.servers), (100, SERVERS))
                self.assertEqual(longer.entries, ENTRIES + [(server, number)])
            self.assertEqual(log.entries, ENTRIES)

    def test_with_entry_200_and_201(self):
        for make in BOTH:
            log = full(make, 199).with_entry("ann", 7)
            self.assertEqual(len(log), 200)
            self.raises(InvalidLog, log.with_entry, "ann", 1000)
            self.raises(InvalidServer, log.with_entry, "cy", -1)
            self.raises(InvalidNumber, log.with_entry, "ann", -1)

    def test_with_entry_wrong(self):
        for make in BOTH:
            log = make(100, SERVERS, ENTRIES)
            for thing in any_objects() + ["cy", "an", "annn", "", "ann\n", ["ann"], ("ann",)]:
                if thing != "ann":
                    self.raises(InvalidServer, log.with_entry, thing, 5)
                    self.raises(InvalidServer, log.with_entry, thing, -5)
            for number in (-1, -(10 ** 60 - 1)):
                self.raises(InvalidNumber, log.with_entry, "ann", number)
            self.assertEqual(log.entries, ENTRIES)

    def test_front(self):
        for make in BOTH:
            log = make(100, SERVERS, ENTRIES)
            for count in range(5):
                first = log.front(count)
                self.assertIs(first.__class__, make)
                self.assertEqual((first.size, first.servers, first.entries), (100, SERVERS, ENTRIES[:count]))
            for count in (-1, 5, 10 ** 59, -(10 ** 59)):
                self.raises(InvalidNumber, log.front, count)
        self.assertEqual(Log(1, ["a"], []).front(0), Log(1, ["a"], []))
        self.raises(InvalidNumber, Log(1, ["a"], []).front, 1)
        self.assertEqual(full().front(200), full())
        self.raises(InvalidNumber, full().front, 201)

    def test_last_block(self):
        self.assertEqual(Log(10, SERVERS, []).last_block(), -1)
        self.assertEqual(Log(10, SERVERS, [("ann", 9)]).last_block(), 0)
        self.assertEqual(Log(10, SERVERS, [("ann", 10)]).last_block(), 1)
        self.assertEqual(Log(10, SERVERS, [("ann", 35), ("bob", 29)]).last_block(), 3)
        self.assertEqual(Log(1, SERVERS, [("ann", 10 ** 60 - 1)]).last_block(), 10 ** 60 - 1)
        self.assertEqual(LosingLog(10 ** 30, SERVERS, [("ann", 10 ** 60 - 1)]).last_block(), 10 ** 30 - 1)
        self.assertEqual(LosingLog(10 ** 30, SERVERS, [("ann", 10 ** 30 - 1)]).last_block(), 0)


if __name__ == "__main__":
    unittest.main()
