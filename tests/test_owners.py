"""Possible owners, their slots, and stretches (points 2, 3 and 8)."""

import inspect
import itertools
import unittest

from numberbooks import owners
from numberbooks.errors import InvalidBlock, InvalidServer, NotPossible
from numberbooks.logs import Log, LosingLog
from numberbooks.owners import owners_of, slots_of, stretches, sure_owner
from numberbooks.walks import obstacle, shows_obstacle, window
from tests.objects import IMPOSSIBLE, any_objects
from tests.raising import Raising

BOTH = (Log, LosingLog)
SERVERS = ["ann", "bob"]
TWELVE = list("abcdefghijkl")
GREAT = 10 ** 60 - 1


def rows_of(log):
    return list(stretches(log))


class Interface(Raising):
    def test_functions_stand_in_the_file(self):
        for call, names in ((owners_of, ["log", "block"]), (slots_of, ["log", "server", "block"]),
                            (sure_owner, ["log", "block"]), (stretches, ["log"])):
            self.assertEqual(call.__module__, "numberbooks.owners")
            self.assertEqual(list(inspect.signature(call).parameters), names)
            self.assertTrue(inspect.isfunction(getattr(owners, call.__name__)))

    def test_by_name(self):
        log = Log(10, SERVERS, [("ann", 15)])
        self.assertEqual(owners_of(block=0, log=log), ["ann", "bob"])
        self.assertEqual(slots_of(block=1, server="ann", log=log), (0, 0))
        self.assertEqual(sure_owner(block=1, log=log), "ann")
        self.assertEqual(list(stretches(log=log)), [(0, 0, ["ann", "bob"]), (1, 1, ["ann"])])


class Owners(Raising):
    def test_ordinary(self):
        for make in BOTH:
            log = make(10, SERVERS, [("ann", 12), ("bob", 35), ("ann", 51)])
            self.assertEqual([owners_of(log, block) for block in range(6)],
                             [["ann", "bob"], ["ann"], ["ann", "bob"], ["bob"], ["ann", "bob"], ["ann"]])
            self.assertEqual([sure_owner(log, block) for block in range(6)], [None, "ann", None, "bob", None, "ann"])
            self.assertEqual([slots_of(log, "ann", block) for block in range(6)],
                             [(0, 0), (0, 0), (1, 1), None, (1, 2), (1, 2)])
            self.assertEqual([slots_of(log, "bob", block) for block in range(6)],
                             [(0, 0), None, (0, 1), (0, 1), (2, 2), None])

    def test_a_window_alone_is_not_enough(self):
        # bob's window for block 1 begins behind his entry 1, but ann has block 2 before entry 0.
        for make in BOTH:
            log = make(10, SERVERS + ["cy"], [("ann", 25), ("bob", 5)])
            self.assertEqual(window(log, "bob", 1), (2, 2))
            self.assertEqual((slots_of(log, "bob", 1), owners_of(log, 1)), (None, ["ann", "cy"]))
            self.assertEqual((window(log, "cy", 1), slots_of(log, "cy", 1)), ((0, 2), (0, 0)))

    def test_one_server(self):
        for make in BOTH:
            log = make(1, ["a"], [("a", 2), ("a", 4)])
            self.assertEqual([owners_of(log, block) for block in range(5)], [["a"]] * 5)
            self.assertEqual([sure_owner(log, block) for block in range(5)], ["a"] * 5)
            self.assertEqual([slots_of(log, "a", block) for block in range(5)], [(0, 0)] * 3 + [(1, 1)] * 2)

    def test_sequence_of_the_servers(self):
        for names in itertools.permutations(["a", "b", "c"]):
            log = Log(1, list(names), [("b", 1)])
            self.assertEqual(owners_of(log, 0), list(names))

    def test_very_many_blocks(self):
        for make in BOTH:
            far = 10 ** 59
            log = make(1, SERVERS, [("bob", 7), ("ann", far), ("bob", 3 * far)])
            self.assertEqual(owners_of(log, 0), ["ann", "bob"])
            self.assertEqual(owners_of(log, far // 3), ["ann", "bob"])
            self.assertEqual(sure_owner(log, far), "ann")
            self.assertEqual(slots_of(log, "ann", 2 * far), (2, 2))
            self.assertEqual(slots_of(log, "bob", 2 * far), (1, 2))
            self.assertEqual(slots_of(log, "ann", 3 * far), None)
            self.raises(InvalidBlock, owners_of, log, 3 * far + 1)
            large = make(10 ** 30, TWELVE, [("l", GREAT)])
            self.assertEqual(owners_of(large, 0), TWELVE)
            self.assertEqual(owners_of(large, 10 ** 30 - 2), TWELVE)
            self.assertEqual(owners_of(large, 10 ** 30 - 1), ["l"])

    def test_200_entries_and_12_servers(self):
        entries = [(TWELVE[k % 12], (k + 1) * 10 ** 57) for k in range(200)]
        log = LosingLog(10 ** 20, TWELVE, entries)
        for k in (0, 1, 12, 100, 199):
            block = (k + 1) * 10 ** 37
            self.assertEqual(sure_owner(log, block), TWELVE[k % 12])
            self.assertEqual(slots_of(log, TWELVE[k % 12], block), (max(0, k - 11), k))
            self.assertEqual(owners_of(log, block - 1), TWELVE)

    def test_returned_lists_are_new(self):
        log = Log(10, SERVERS, [("ann", 15)])
        owners_of(log, 0).clear()
        self.assertEqual(owners_of(log, 0), SERVERS)
        self.assertIsNot(owners_of(log, 0), owners_of(log, 0))
        self.assertEqual(log.servers, SERVERS)


class Stretches(Raising):
    def test_ordinary(self):
        for make in BOTH:
            log = make(100, SERVERS, [("ann", 5), ("bob", 230), ("ann", 310), ("ann", 900)])
            self.assertEqual(rows_of(log), [(0, 0, ["ann"]), (1, 1, SERVERS), (2, 2, ["bob"]), (3, 3, ["ann"]),
                                            (4, 8, SERVERS), (9, 9, ["ann"])])

    def test_no_entries(self):
        for make in BOTH:
            for size in (1, 10 ** 30):
                self.assertEqual(rows_of(make(size, TWELVE, [])), [])

    def test_seen_and_hidden_blocks_are_put_together(self):
        for make in BOTH:
            self.assertEqual(rows_of(make(10, ["a"], [("a", 35), ("a", 36), ("a", GREAT)])),
                             [(0, GREAT // 10, ["a"])])
            self.assertEqual(rows_of(make(1, SERVERS, [("bob", 0), ("bob", 1), ("bob", 2), ("ann", 3)])),
                             [(0, 2, ["bob"]), (3, 3, ["ann"])])
            # ann is busy with block 0 until entry 1, and bob has block 3 before entry 0.
            log = make(10, SERVERS, [("bob", 35), ("ann", 5), ("ann", 45)])
            self.assertEqual([owners_of(log, block) for block in range(5)],
                             [["ann"], ["bob"], ["bob"], ["bob"], ["ann"]])
            self.assertEqual(rows_of(log), [(0, 0, ["ann"]), (1, 3, ["bob"]), (4, 4, ["ann"])])

    def test_very_many_blocks(self):
        far = 10 ** 59
        for make in BOTH:
            self.assertEqual(rows_of(make(1, SERVERS, [("bob", 7), ("ann", far), ("bob", 3 * far)])),
                             [(0, 6, SERVERS), (7, 7, ["bob"]), (8, far - 1, SERVERS), (far, far, ["ann"]),
                              (far + 1, 3 * far - 1, SERVERS), (3 * far, 3 * far, ["bob"])])
            self.assertEqual(rows_of(make(10 ** 30, TWELVE, [("a", 5)])), [(0, 0, ["a"])])

    def test_200_entries(self):
        entries = [(TWELVE[k % 12], (k + 1) * 10 ** 57) for k in range(200)]
        rows = rows_of(Log(10 ** 20, TWELVE, entries))
        self.assertEqual(len(rows), 400)
        self.assertEqual(rows[:2], [(0, 10 ** 37 - 1, TWELVE), (10 ** 37, 10 ** 37, ["a"])])
        self.assertEqual(rows[-1], (200 * 10 ** 37, 200 * 10 ** 37, [TWELVE[199 % 12]]))

    def test_against_owners_of_block_by_block(self):
        for make in BOTH:
            log = make(3, ["c", "a", "b"], [("a", 20), ("c", 7), ("b", 31), ("a", 50), ("c", 40), ("b", 71)])
            rows = rows_of(log)
            told = [names for first, last, names in rows for _ in range(first, last + 1)]
            self.assertEqual(told, [owners_of(log, block) for block in range(log.last_block() + 1)])
            for former, later in zip(rows, rows[1:]):
                self.assertEqual(former[1] + 1, later[0])
                self.assertNotEqual(former[2], later[2])

    def test_left_early_and_asked_again(self):
        log = Log(10, SERVERS, [("ann", 35), ("bob", 65)])
        one = iter(stretches(log))
        other = iter(stretches(log))
        self.assertEqual(next(one), (0, 2, SERVERS))
        self.assertEqual([next(other), next(other)], [(0, 2, SERVERS), (3, 3, ["ann"])])
        self.assertEqual(next(one), (3, 3, ["ann"]))
        self.assertEqual(rows_of(log), [(0, 2, SERVERS), (3, 3, ["ann"]), (4, 5, SERVERS), (6, 6, ["bob"])])

    def test_what_is_yielded_may_be_changed(self):
        log = Log(10, SERVERS, [("ann", 35), ("bob", 65)])
        for make_same in (list.clear, lambda names: names.append("cy"), lambda names: names.reverse()):
            found = []
            for first, last, names in stretches(log):
                found.append((first, last, list(names)))
                make_same(names)
            self.assertEqual(found, rows_of(log))
        lists = [names for _, _, names in rows_of(log) + rows_of(log)]
        self.assertEqual(len({id(names) for names in lists}), len(lists))
        self.assertEqual(log.servers, SERVERS)


class Errors(Raising):
    def test_servers(self):
        for make in BOTH:
            for entries in [[], [("ann", 12)]] + list(IMPOSSIBLE):
                log = make(10, SERVERS, entries)
                for thing in any_objects() + ["cy", "an", ["ann"], ("ann",), "ann\n", "ANN"]:
                    if thing != "ann":
                        for block in (0, -1, log.last_block(), GREAT):
                            self.raises(InvalidServer, slots_of, log, thing, block)

    def test_blocks(self):
        for make in BOTH:
            for entries in [[], [("ann", 12)]] + list(IMPOSSIBLE):
                log = make(10, SERVERS, entries)
                for block in (-1, -GREAT, log.last_block() + 1, GREAT):
                    self.raises(InvalidBlock, owners_of, log, block)
                    self.raises(InvalidBlock, sure_owner, log, block)
                    self.raises(InvalidBlock, slots_of, log, "bob", block)

    def test_no_entries(self):
        for make in BOTH:
            for call in (owners_of, sure_owner):
                self.raises(InvalidBlock, call, make(10, SERVERS, []), 0)

    def test_not_possible(self):
        for make in BOTH:
            for entries in IMPOSSIBLE:
                log = make(10, SERVERS, entries)
                for block in (0, log.last_block()):
                    for call, given in ((owners_of, (block,)), (sure_owner, (block,)), (slots_of, ("bob", block)),
                                        (rows_of, ())):
                        found = self.raises(NotPossible, call, log, *given).obstacle
                        self.assertEqual(found, obstacle(log))
                        self.assertIs(shows_obstacle(log, found), True)


if __name__ == "__main__":
    unittest.main()
