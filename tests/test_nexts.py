"""The entries that can follow (points 2, 4 and 12)."""

import inspect
import unittest

from numberbooks import nexts
from numberbooks.errors import InvalidServer, NotPossible
from numberbooks.logs import Log, LosingLog
from numberbooks.nexts import can_follow, next_numbers
from numberbooks.walks import obstacle
from tests.objects import IMPOSSIBLE, any_objects
from tests.raising import Raising

BOTH = (Log, LosingLog)
SERVERS = ["ann", "bob"]
TWELVE = list("abcdefghijkl")
GREAT = 10 ** 60 - 1


class Interface(Raising):
    def test_functions_stand_in_the_file(self):
        for call, names in ((can_follow, ["log", "server", "number"]), (next_numbers, ["log", "server"])):
            self.assertEqual(call.__module__, "numberbooks.nexts")
            self.assertEqual(list(inspect.signature(call).parameters), names)
            self.assertTrue(inspect.isfunction(getattr(nexts, call.__name__)))

    def test_by_name(self):
        log = Log(10, SERVERS, [("ann", 15)])
        self.assertIs(can_follow(number=16, server="ann", log=log), True)
        self.assertEqual(next_numbers(server="bob", log=log), [(0, 9), (20, None)])


class Following(Raising):
    def check(self, log, server, ranges):
        found = next_numbers(log, server)
        self.assertEqual(found, ranges, (log.size, log.entries, server))
        self.assertIs(found.__class__, list)
        for first, last in found:
            self.assertIs(can_follow(log, server, first), True)
            self.assertIs(can_follow(log, server, first - 1), False)
            far = [first + 1, 2 * first + 7, first + GREAT] if last is None else [last, (first + last) // 2]
            for number in far:
                self.assertIs(can_follow(log, server, number), True, number)
            if last is not None:
                self.assertIs(can_follow(log, server, last + 1), False)
        for number in (-1, -2, -log.size, -GREAT):
            self.assertIs(can_follow(log, server, number), False)

    def test_ordinary(self):
        for make in BOTH:
            log = make(100, SERVERS, [("ann", 5), ("bob", 230)])
            self.check(log, "ann", [(6, 199), (300, None)])
            self.check(log, "bob", [(231, None)])
            log = make(100, SERVERS, [("ann", 5), ("bob", 230), ("ann", 310)])
            # Block 1 cannot be the last one of either, and bob has block 2.
            self.check(log, "ann", [(311, None)])
            self.check(log, "bob", [(231, 299), (400, None)])
            log = make(100, SERVERS + ["cy"], [("ann", 5), ("bob", 230), ("ann", 310)])
            self.check(log, "cy", [(100, 199), (400, None)])
            self.check(log, "ann", [(311, None)])

    def test_no_entries(self):
        for make in BOTH:
            for size in (1, 10, 10 ** 30):
                for servers in (["a"], TWELVE):
                    for server in servers:
                        self.check(make(size, servers, []), server, [(0, None)])

    def test_one_server(self):
        for make in BOTH:
            self.check(make(10, ["a"], [("a", 35)]), "a", [(36, None)])
            self.check(make(10, ["a"], [("a", 39)]), "a", [(40, None)])
            self.check(make(10, ["a"], [("a", 0)]), "a", [(1, None)])
            self.check(make(10 ** 30, ["a"], [("a", GREAT)]), "a", [(GREAT + 1, None)])

    def test_size_1(self):
        for make in BOTH:
            log = make(1, SERVERS, [("ann", 0), ("bob", 3)])
            self.check(log, "ann", [(1, 2), (4, None)])
            self.check(log, "bob", [(4, None)])
            log = make(1, SERVERS + ["cy"], [("ann", 0), ("bob", 3), ("ann", 7)])
            self.check(log, "cy", [(1, 2), (4, 6), (8, None)])
            self.check(log, "bob", [(4, 6), (8, None)])

    def test_a_hidden_block_that_was_taken_in_between(self):
        for make in BOTH:
            # bob's block 1 was taken before ann's block 2, but he may have used nothing of it.
            log = make(10, SERVERS, [("ann", 25)])
            self.check(log, "bob", [(0, 19), (30, None)])
            self.check(log, "ann", [(26, None)])
            # With bob's entry first, ann has both hidden blocks or only the latter one.
            log = make(10, SERVERS, [("bob", 5), ("ann", 35)])
            self.check(log, "bob", [(6, 29), (40, None)])
            self.check(log, "ann", [(36, None)])

    def test_ranges_are_put_together(self):
        for make in BOTH:
            log = make(10, SERVERS + ["cy"], [("ann", 5), ("bob", 45)])
            self.check(log, "ann", [(6, 39), (50, None)])
            self.check(log, "cy", [(10, 39), (50, None)])
            self.check(log, "bob", [(46, None)])
            # The last number of the server ends a block, or begins one.
            self.check(make(10, SERVERS, [("ann", 9), ("bob", 25)]), "ann", [(10, 19), (30, None)])
            self.check(make(10, SERVERS, [("ann", 19), ("bob", 25)]), "ann", [(30, None)])
            self.check(make(10, SERVERS, [("ann", 10), ("bob", 25)]), "ann", [(11, 19), (30, None)])

    def test_very_many_blocks(self):
        far = 10 ** 59
        for make in BOTH:
            log = make(10, SERVERS + ["cy"], [("cy", 3), ("ann", 15), ("bob", far)])
            self.check(log, "ann", [(16, far - 1), (far + 10, None)])
            self.check(log, "cy", [(4, 9), (20, far - 1), (far + 10, None)])
            self.check(log, "bob", [(far + 1, None)])
            self.check(make(1, SERVERS, [("bob", GREAT)]), "ann", [(0, GREAT - 1), (GREAT + 1, None)])
            size = 10 ** 30
            log = make(size, SERVERS, [("ann", 7), ("bob", 10 ** 45 + 3)])
            self.check(log, "ann", [(8, 10 ** 45 - 1), (10 ** 45 + size, None)])

    def test_200_entries_and_12_servers(self):
        for make in BOTH:
            entries = [(TWELVE[k % 12], k * 10 ** 57 + 5) for k in range(200)]
            log = make(10 ** 30, TWELVE, entries)
            self.assertEqual(len(log), 200)
            for index in range(188, 200):
                server, last = entries[index]
                # Each later entry leaves out its own block, and nothing more.
                starts = [last + 1] + [number - 5 + 10 ** 30 for _, number in entries[index + 1:]]
                ends = [number - 6 for _, number in entries[index + 1:]] + [None]
                self.check(log, server, list(zip(starts, ends)))

    def test_results_are_booleans_and_lists_new(self):
        log = Log(10, SERVERS, [("ann", 15)])
        for number in (-1, 0, 15, 16, 20, GREAT):
            self.assertIs(can_follow(log, "ann", number).__class__, bool)
        next_numbers(log, "bob").clear()
        self.assertEqual(next_numbers(log, "bob"), [(0, 9), (20, None)])
        self.assertIsNot(next_numbers(log, "bob"), next_numbers(log, "bob"))
        self.assertEqual(log.entries, [("ann", 15)])


class Errors(Raising):
    def test_any_object_as_server(self):
        for make in BOTH:
            for entries in [[], [("ann", 12)]] + list(IMPOSSIBLE):
                log = make(10, SERVERS, entries)
                for thing in any_objects() + ["cy", "an", "annn", ["ann"], ("ann",), "ann\n", "ann "]:
                    if thing != "ann":
                        self.raises(InvalidServer, next_numbers, log, thing)
                        for number in (-1, 0, 25, GREAT):
                            self.raises(InvalidServer, can_follow, log, thing, number)

    def test_not_possible(self):
        for make in BOTH:
            for entries in IMPOSSIBLE:
                log = make(10, SERVERS, entries)
                for server in SERVERS:
                    self.assertEqual(self.raises(NotPossible, next_numbers, log, server).obstacle, obstacle(log))
                    for number in (-1, -GREAT, 0, 5, 99, GREAT):
                        error = self.raises(NotPossible, can_follow, log, server, number)
                        self.assertEqual(error.obstacle, obstacle(log))

    def test_200_entries_that_are_not_possible(self):
        for make in BOTH:
            log = make(10, SERVERS, [("ann", k) for k in range(199)] + [("bob", 3)])
            self.assertEqual(self.raises(NotPossible, can_follow, log, "bob", 4).obstacle, obstacle(log))
            self.assertEqual(self.raises(NotPossible, next_numbers, log, "bob").obstacle, obstacle(log))


if __name__ == "__main__":
    unittest.main()
