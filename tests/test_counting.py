"""The lists of owners and their indices (points 2, 3 and 10)."""

import inspect
import itertools
import unittest

from numberbooks import counting
from numberbooks.counting import count_lists, list_index, nth_list
from numberbooks.errors import InvalidNumber, InvalidOwners, NotPossible, TooLarge
from numberbooks.histories import history_for
from numberbooks.logs import Log, LosingLog
from numberbooks.walks import obstacle
from tests.objects import IMPOSSIBLE, any_objects
from tests.raising import Raising

BOTH = (Log, LosingLog)
SERVERS = ["ann", "bob"]
TWELVE = list("abcdefghijkl")
GREAT = 10 ** 60 - 1


class Interface(Raising):
    def test_functions_stand_in_the_file(self):
        for call, names in ((count_lists, ["log"]), (nth_list, ["log", "index"]), (list_index, ["log", "owners"])):
            self.assertEqual(call.__module__, "numberbooks.counting")
            self.assertEqual(list(inspect.signature(call).parameters), names)
            self.assertTrue(inspect.isfunction(getattr(counting, call.__name__)))

    def test_by_name(self):
        log = Log(10, SERVERS, [("ann", 15)])
        self.assertEqual(count_lists(log=log), 2)
        self.assertEqual(nth_list(index=1, log=log), ["bob", "ann"])
        self.assertEqual(list_index(owners=["bob", "ann"], log=log), 1)


class Lists(Raising):
    def all_lists(self, log):
        return [nth_list(log, index) for index in range(count_lists(log))]

    def test_ordinary(self):
        for make in BOTH:
            log = make(10, SERVERS, [("ann", 12), ("bob", 35), ("ann", 51)])
            rows = self.all_lists(log)
            free = [[a, "ann", b, "bob", c, "ann"] for a in SERVERS for b in SERVERS for c in SERVERS]
            self.assertEqual(rows, free)
            log = make(100, SERVERS, [("ann", 5), ("bob", 230), ("ann", 310)])
            self.assertEqual(self.all_lists(log), [["ann", "ann", "bob", "ann"], ["ann", "bob", "bob", "ann"]])

    def test_owners_that_come_too_late(self):
        for make in BOTH:
            # Blocks 1 to 3 are taken before entry 0: bob cannot, he still has block 0.
            log = make(10, SERVERS + ["cy"], [("ann", 45), ("bob", 5), ("cy", 55)])
            free = [["bob", a, b, c, "ann", "cy"] for a in ("ann", "cy") for b in ("ann", "cy") for c in ("ann", "cy")]
            self.assertEqual(self.all_lists(log), free)
            for place in (1, 2, 3):
                self.raises(InvalidOwners, list_index, log, free[0][:place] + ["bob"] + free[0][place + 1:])
            log = make(1, ["a", "b"], [("b", 4), ("a", 0), ("b", 6)])
            self.assertEqual(self.all_lists(log), [["a", "b", "b", "b", "b", last, "b"] for last in ("a", "b")])

    def test_no_entries(self):
        for make in BOTH:
            for size in (1, 10 ** 30):
                log = make(size, TWELVE, [])
                self.assertEqual((count_lists(log), nth_list(log, 0), list_index(log, [])), (1, [], 0))
                for index in (-1, 1, GREAT):
                    self.raises(InvalidNumber, nth_list, log, index)
                for owners in (["a"], (), None, "", {}, [[]]):
                    self.raises(InvalidOwners, list_index, log, owners)

    def test_one_server(self):
        for make in BOTH:
            log = make(10 ** 30, ["a"], [("a", 5), ("a", 10 ** 32)])
            self.assertEqual((count_lists(log), nth_list(log, 0)), (1, ["a"] * 101))
            self.assertEqual(list_index(log, ["a"] * 101), 0)

    def test_block_0_alone(self):
        for make in BOTH:
            log = make(10 ** 30, TWELVE, [("c", 10 ** 30 - 1)])
            self.assertEqual((count_lists(log), nth_list(log, 0), list_index(log, ["c"])), (1, ["c"], 0))

    def test_sequence_of_the_servers(self):
        for names in itertools.permutations(["a", "b", "c"]):
            log = Log(2, list(names), [("b", 5)])
            rows = [list(row) + ["b"] for row in itertools.product(names, repeat=2)]
            self.assertEqual(self.all_lists(log), rows)
            self.assertEqual([list_index(log, row) for row in rows], list(range(9)))

    def test_200_blocks_and_one_more(self):
        for make in BOTH:
            log = make(1, TWELVE, [("a", 200)])
            many = 12 ** 200
            self.assertEqual(count_lists(log), many)
            self.assertEqual(nth_list(log, 0), ["a"] * 201)
            self.assertEqual(nth_list(log, many - 1), ["l"] * 200 + ["a"])
            self.assertEqual(list_index(log, ["l"] * 200 + ["a"]), many - 1)
            for index in (1, 11, 12, GREAT, many // 7, many - 2):
                self.assertEqual(list_index(log, nth_list(log, index)), index)
            for index in (many, many + 1, -1, -many):
                self.raises(InvalidNumber, nth_list, log, index)
            for number in (201, GREAT):
                self.too_large(make(1, TWELVE, [("a", number)]))

    def test_200_entries(self):
        entries = [(TWELVE[k % 12], k + k // 2) for k in range(134)] + [("a", 200 * 10 ** 30 + k) for k in range(66)]
        for make in BOTH:
            size = 10 ** 30
            log = make(size, TWELVE, [(name, number * size) for name, number in entries[:134]] + entries[134:])
            self.assertEqual((len(log), log.last_block()), (200, 200))
            many = count_lists(log)
            self.assertGreater(many, 10 ** 20)
            for index in (0, 1, many // 3, many - 1):
                row = nth_list(log, index)
                self.assertEqual(list_index(log, row), index)
                self.assertEqual([row[k + k // 2] for k in range(134)], [TWELVE[k % 12] for k in range(134)])

    def too_large(self, log):
        self.raises(TooLarge, count_lists, log)
        for index in (0, -1, GREAT):
            self.raises(TooLarge, nth_list, log, index)
        for owners in ([], None, ["a"] * 202):
            self.raises(TooLarge, list_index, log, owners)

    def test_too_large_comes_before_not_possible(self):
        for make in BOTH:
            for number in (2010, GREAT):
                for entries in IMPOSSIBLE + ([],):
                    self.too_large(make(10, SERVERS, entries + [("ann", number), ("ann", number)]))
            log = make(10, SERVERS, [("ann", 2009), ("ann", 2009)])
            self.assertEqual(self.raises(NotPossible, count_lists, log).obstacle, ("twice", 0, 1))

    def test_the_list_of_a_history_is_possible(self):
        log = Log(3, ["a", "b", "c"], [("c", 14), ("a", 4), ("b", 31), ("a", 22), ("c", 40)])
        owners = history_for(log).owners()
        self.assertEqual(nth_list(log, list_index(log, owners)), owners)

    def test_returned_lists_are_new(self):
        log = Log(10, SERVERS, [("ann", 15)])
        nth_list(log, 0).clear()
        self.assertEqual(nth_list(log, 0), ["ann", "ann"])
        self.assertIsNot(nth_list(log, 0), nth_list(log, 0))


class Errors(Raising):
    def test_not_possible_comes_before_index_and_owners(self):
        for make in BOTH:
            for entries in IMPOSSIBLE:
                log = make(10, SERVERS, entries)
                calls = [(count_lists, ())] + [(nth_list, (index,)) for index in (0, -1, GREAT)]
                for thing in any_objects():
                    calls.append((list_index, (thing,)))
                for call, given in calls:
                    self.assertEqual(self.raises(NotPossible, call, log, *given).obstacle, obstacle(log))

    def test_owners(self):
        for make in BOTH:
            log = make(10, SERVERS, [("ann", 15), ("bob", 35)])
            self.assertEqual(list_index(log, ["bob", "ann", "bob", "bob"]), 3)
            wrong = [[], ["bob", "ann", "bob"], ["bob", "ann", "bob", "bob", "bob"], ("bob", "ann", "bob", "bob"),
                     ["bob", "bob", "bob", "bob"], ["bob", "ann", "bob", "ann"], ["cy", "ann", "bob", "bob"],
                     ["bob", "ann", None, "bob"], ["bob", "ann", True, "bob"], ["bob", "ann", ["bob"], "bob"],
                     ["bob", "ann", ("bob",), "bob"], ["bob", "ann", 1, "bob"], ["bob", "ann", log, "bob"],
                     ["bob", "ann", {}, "bob"], ["bob", "ann", "bo", "bob"], ["bob", "ann", "", "bob"], "bobannbb",
                     {"bob": 1, "ann": 2, "cy": 3, "dee": 4}, ["bob", "ann", "bob", None], [[]] * 4, ["ann"] * 4000]
            for thing in wrong + any_objects():
                self.raises(InvalidOwners, list_index, log, thing)

    def test_owners_are_not_modified(self):
        owners = ["bob", "ann"]
        log = Log(10, SERVERS, [("ann", 15)])
        list_index(log, owners)
        self.assertEqual((owners, log.entries, log.servers), (["bob", "ann"], [("ann", 15)], SERVERS))

    def test_index(self):
        for make in BOTH:
            log = make(10, SERVERS, [("ann", 15), ("bob", 35)])
            self.assertEqual(count_lists(log), 4)
            self.assertEqual((nth_list(log, 0), nth_list(log, 3)),
                             (["ann", "ann", "ann", "bob"], ["bob", "ann", "bob", "bob"]))
            for index in (-1, 4, 5, GREAT, -GREAT):
                self.raises(InvalidNumber, nth_list, log, index)


if __name__ == "__main__":
    unittest.main()
