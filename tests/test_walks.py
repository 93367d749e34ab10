"""Windows, obstacles, earliest and latest slots (points 2, 3, 4 and 7)."""

import inspect
import itertools
import random
import unittest

from numberbooks import walks
from numberbooks.errors import InvalidBlock, InvalidServer, NotPossible
from numberbooks.logs import Log, LosingLog
from numberbooks.walks import earliest, latest, obstacle, shows_obstacle, window
from tests.objects import any_objects
from tests.raising import Raising
from tests.tried import Tried, has_pair, is_pair, is_pushed, plain_window, shows

BOTH = (Log, LosingLog)
SERVERS = ["ann", "bob"]
TWELVE = list("abcdefghijkl")
# Block 1 is ann's, after entry 1 with her block 0; block 2 is taken before entry 0.
PUSHED = [("bob", 25), ("ann", 5), ("ann", 15)]
GREAT = 10 ** 60 - 1


class Interface(Raising):
    def test_functions_stand_in_the_file(self):
        for call, names in ((window, ["log", "server", "block"]), (obstacle, ["log"]),
                            (shows_obstacle, ["log", "thing"]), (earliest, ["log", "block"]),
                            (latest, ["log", "block"])):
            self.assertEqual(call.__module__, "numberbooks.walks")
            self.assertEqual(list(inspect.signature(call).parameters), names)
            self.assertTrue(inspect.isfunction(getattr(walks, call.__name__)))

    def test_by_name(self):
        log = Log(10, SERVERS, [("ann", 15)])
        self.assertEqual(window(block=0, server="ann", log=log), (0, 0))
        self.assertIsNone(obstacle(log=log))
        self.assertIs(shows_obstacle(thing=None, log=log), False)
        self.assertEqual((earliest(block=0, log=log), latest(block=1, log=log)), (0, 0))
        self.raises(InvalidServer, window, block=-1, server=None, log=log)


class Windows(Raising):
    def test_no_entries(self):
        for make in BOTH:
            log = make(10, ["ann"], [])
            for block in (0, 1, GREAT):
                self.assertEqual(window(log, "ann", block), (0, 0))

    def test_ordinary(self):
        for make in BOTH:
            log = make(10, SERVERS, [("ann", 12), ("bob", 35), ("ann", 15), ("ann", 51)])
            self.assertEqual([window(log, "ann", block) for block in range(8)],
                             [(0, 0), (0, 0), (3, 3), None, (3, 3), (3, 3), (4, 4), (4, 4)])
            self.assertEqual([window(log, "bob", block) for block in range(8)],
                             [(0, 1), None, (0, 1), (0, 1), (2, 4), None, (2, 4), (2, 4)])
            self.assertEqual(window(log, "ann", GREAT), (4, 4))
            self.assertEqual(window(log, "bob", GREAT), (2, 4))

    def test_edges_of_blocks(self):
        log = Log(10, SERVERS, [("ann", 10), ("ann", 19), ("bob", 29), ("bob", 30)])
        self.assertEqual([window(log, "ann", block) for block in range(5)], [(0, 0), (0, 0), None, None, (2, 4)])
        self.assertEqual([window(log, "bob", block) for block in range(5)], [(0, 2), None, (0, 2), (3, 3), (4, 4)])

    def test_logs_that_are_not_possible(self):
        log = Log(10, SERVERS, [("ann", 25), ("ann", 5)])
        self.assertEqual(window(log, "ann", 0), (0, 0))
        self.assertEqual(window(log, "ann", 1), (2, 0))
        self.assertEqual(window(log, "ann", 2), (2, 0))
        self.assertEqual(window(log, "ann", 3), (2, 2))
        shared = Log(10, SERVERS, [("ann", 5), ("bob", 6)])
        self.assertIsNone(window(shared, "ann", 0))
        self.assertIsNone(window(shared, "bob", 0))
        twice = LosingLog(10, SERVERS, [("ann", 5), ("ann", 5)])
        self.assertEqual(window(twice, "ann", 0), (0, 0))
        self.assertEqual(window(twice, "ann", 1), (2, 2))
        self.assertEqual(window(Log(10, SERVERS, PUSHED), "ann", 1), (2, 2))

    def test_large(self):
        log = Log(10 ** 30, TWELVE, [("a", GREAT), ("l", 10 ** 30)])
        last = 10 ** 30 - 1
        self.assertEqual(window(log, "a", last), (0, 0))
        self.assertIsNone(window(log, "b", last))
        self.assertEqual(window(log, "l", last - 1), (2, 2))
        self.assertEqual(window(log, "l", 1), (0, 1))
        self.assertEqual(window(log, "b", GREAT), (0, 2))

    def test_errors(self):
        for make in BOTH:
            for entries in ([], [("ann", 12)], PUSHED, [("ann", 5), ("ann", 5)]):
                log = make(10, SERVERS, entries)
                for thing in any_objects() + ["cy", "an", ["ann"], ("ann",), "ann\n"]:
                    if thing != "ann":
                        self.raises(InvalidServer, window, log, thing, 0)
                        self.raises(InvalidServer, window, log, thing, -1)
                for block in (-1, -(10 ** 59)):
                    self.raises(InvalidBlock, window, log, "bob", block)


class Obstacles(Raising):
    def test_possible(self):
        for make in BOTH:
            for entries in ([], [("ann", 0)], [("ann", GREAT)], [("bob", 9), ("ann", 10)], [("ann", 3), ("ann", 4)],
                            [("ann", 25), ("bob", 5)], [("ann", 19), ("bob", 20), ("ann", 30)]):
                self.assertIsNone(obstacle(make(10, SERVERS, entries)))

    def test_each_kind(self):
        for make in BOTH:
            for entries, found in (([("ann", 5), ("ann", 5)], ("twice", 0, 1)),
                                   ([("bob", 90), ("ann", 5), ("bob", 9)], ("shared", 1, 2)),
                                   ([("ann", 15), ("bob", 25), ("ann", 14)], ("back", 0, 2)),
                                   ([("ann", 15), ("ann", 5)], ("back", 0, 1))):
                self.assertEqual(obstacle(make(10, SERVERS, entries)), found)
            self.assertEqual(obstacle(make(10, SERVERS, PUSHED)), ("pushed", [(1, 2), (2, 4)]))

    def test_neighbours_of_a_pair(self):
        self.assertIsNone(obstacle(Log(10, SERVERS, [("ann", 9), ("bob", 10)])))
        self.assertEqual(obstacle(Log(10, SERVERS, [("ann", 10), ("bob", 19)])), ("shared", 0, 1))
        self.assertIsNone(obstacle(Log(1, SERVERS, [("ann", 0), ("bob", 1)])))

    def test_pushed_only_without_a_pair(self):
        for last in (("bob", 25), ("bob", 24), ("ann", 26)):
            log = Log(10, SERVERS, PUSHED + [last])
            found = obstacle(log)
            self.assertNotEqual(found[0], "pushed")
            self.assertTrue(shows(10, SERVERS, log.entries, found))

    def test_results_are_new_and_equal(self):
        log = Log(10, SERVERS, PUSHED)
        one = obstacle(log)
        one[1].append((3, 5))
        self.assertEqual(obstacle(log), ("pushed", [(1, 2), (2, 4)]))
        self.assertIsNot(obstacle(log)[1], obstacle(log)[1])
        raised = self.raises(NotPossible, earliest, log, 0)
        raised.obstacle[1].clear()
        self.assertEqual(self.raises(NotPossible, latest, log, 0).obstacle, ("pushed", [(1, 2), (2, 4)]))

    def test_pushed_among_very_many_blocks(self):
        for make in BOTH:
            far = 10 ** 59
            entries = [("bob", far * 9), ("ann", 5), ("ann", far)]
            log = make(1, SERVERS, entries)
            self.assertTrue(is_pushed(1, SERVERS, entries, obstacle(log)[1]))
            self.assertIs(shows_obstacle(log, obstacle(log)), True)
            self.assertIs(shows_obstacle(log, ("pushed", [(far, 2), (far * 9, 4)])), True)
            self.assertIs(shows_obstacle(log, ("pushed", [(far, 2), (far * 9 - 1, 3), (far * 9, 4)])), True)
            self.assertIs(shows_obstacle(log, ("pushed", [(far - 1, 2), (far * 9, 4)])), False)
            self.assertIsNone(obstacle(make(1, SERVERS + ["cy"], entries[:2])))

    def test_200_entries(self):
        for make in BOTH:
            entries = [(TWELVE[k % 12], k * 10 ** 57) for k in range(200)]
            self.assertIsNone(obstacle(make(10 ** 20, TWELVE, entries)))
            swapped = entries[:150] + [entries[151], entries[150]] + entries[152:]
            self.assertIsNone(obstacle(make(10 ** 20, TWELVE, swapped)))
            back = entries[:150] + entries[162:] + entries[150:162]
            self.assertEqual(obstacle(make(10 ** 20, TWELVE, back))[0], "back")
            self.assertEqual(obstacle(make(10 ** 20, TWELVE, entries[:199] + entries[:1])), ("twice", 0, 199))

    def test_more_than_200_entries_can_be_judged(self):
        entries = [("ann", 10 * k + 1) for k in range(201)]
        self.assertIsNone(walks.find_obstacle(10, SERVERS, entries))
        self.assertEqual(walks.find_obstacle(10, SERVERS, entries[:200] + [("ann", 0)])[0], "back")


class Shown(Raising):
    def certificates(self, count):
        """All certificates of the right form for this many entries, and some that leave the ranges."""
        found = [(kind, i, j) for kind in ("twice", "shared", "back", "pushed", "none")
                 for i in range(-1, count + 2) for j in range(-1, count + 2)]
        steps = [(block, slot) for block in range(-1, 4) for slot in range(count + 3)]
        for many in range(4):
            found = found + [("pushed", list(some)) for some in itertools.product(steps, repeat=many)
                             if sorted(some) == list(some)]
        return found

    def test_all_certificates_of_some_logs(self):
        some = [PUSHED, [("ann", 5), ("ann", 5)], [("ann", 5), ("bob", 5)], [("ann", 5), ("bob", 6), ("ann", 4)],
                [("ann", 15), ("ann", 25)], [], [("bob", 25), ("ann", 15), ("ann", 5)], PUSHED[:2], PUSHED[1:]]
        for make, losing in ((Log, False), (LosingLog, True)):
            for entries in some:
                log = make(10, SERVERS, entries)
                true = 0
                for thing in self.certificates(len(entries)):
                    said = shows_obstacle(log, thing)
                    self.assertIs(said, self.by_words(10, SERVERS, entries, thing), (entries, thing))
                    true = true + said
                self.assertEqual(true > 0, not Tried(10, SERVERS, entries, losing).possible, entries)

    def by_words(self, size, servers, entries, thing):
        if thing[0] == "pushed":
            return len(thing) == 2 and is_pushed(size, servers, entries, thing[1])
        return is_pair(size, entries, *thing)

    def test_another_certificate_than_the_one_of_obstacle(self):
        log = Log(10, SERVERS, PUSHED)
        self.assertIs(shows_obstacle(log, ("pushed", [(1, 1), (2, 4)])), True)
        self.assertIs(shows_obstacle(log, ("pushed", [(0, 1), (1, 2), (2, 4)])), False)
        twice = Log(10, SERVERS, [("ann", 5), ("ann", 5), ("bob", 5)])
        for thing in (("twice", 0, 1), ("twice", 0, 2), ("twice", 1, 2), ("shared", 0, 2), ("shared", 1, 2)):
            self.assertIs(shows_obstacle(twice, thing), True)
        back = Log(10, SERVERS, [("ann", 35), ("ann", 25), ("ann", 15)])
        for thing in (("back", 0, 1), ("back", 0, 2), ("back", 1, 2)):
            self.assertIs(shows_obstacle(back, thing), True)

    def test_pushed_is_false_if_there_is_a_pair(self):
        steps = [(1, 2), (2, 5)]
        self.assertIs(is_pushed(10, SERVERS, PUSHED + [("bob", 45)], steps), True)
        self.assertIs(shows_obstacle(Log(10, SERVERS, PUSHED + [("bob", 45)]), ("pushed", steps)), True)
        for last in (("bob", 25), ("ann", 26), ("ann", 14), ("bob", 24)):
            self.assertIs(shows_obstacle(Log(10, SERVERS, PUSHED + [last]), ("pushed", steps)), False)

    def test_last_slot(self):
        log = Log(10, SERVERS, PUSHED)
        for slot in range(-1, 8):
            self.assertIs(shows_obstacle(log, ("pushed", [(1, 2), (2, slot)])), slot == 4)
        for slot in (10 ** 59, -(10 ** 59)):
            self.assertIs(shows_obstacle(log, ("pushed", [(1, 2), (2, slot)])), False)

    def test_one_thing_changed(self):
        good = ("pushed", [(1, 2), (2, 4)])
        wrong = [["pushed", [(1, 2), (2, 4)]], ("pushed", ((1, 2), (2, 4))), ("pushed", [[1, 2], (2, 4)]),
                 ("pushed", [(1, 2), [2, 4]]), ("pushed", [(True, 2), (2, 4)]), ("pushed", [(1, 2, 3), (2, 4)]),
                 ("pushed", [(1,), (2, 4)]), ("pushed", [(1, 2), (2, 4), None]), ("pushed", [(1, 2), (2, 4), (3, 5)]),
                 ("pushed", [(1, 2)]), ("pushed", [(2, 4)]), ("pushed", []), ("pushed", [(2, 4), (1, 2)]),
                 ("pushed", [(1, 2), (1, 4)]), ("pushed", [(1, 3), (2, 4)]), ("pushed", [(1, 0), (2, 4)]),
                 ("pushed", [(-1, 1), (1, 2), (2, 4)]), ("pushed", [(1, 2), (3, 4)]), ("pushed", [(1, "2"), (2, 4)]),
                 ("pushed", [(None, 2), (2, 4)]), ("pushed",), ("pushed", [(1, 2), (2, 4)], None), ("Pushed", good[1]),
                 (None, good[1]), ("push", good[1]), ("pushed", good[1], good[1]), ("twice", good[1]), [good], (good,),
                 good[1], ("pushed", [(1, True), (2, 4)]), ("pushed", [(1, 2), (2, 2), (2, 4)]),
                 ("pushed", {"a": good[1]}), ("pushed", [(Log(1, ["a"], []), 2), (2, 4)])]
        for make in BOTH:
            log = make(10, SERVERS, PUSHED)
            self.assertIs(shows_obstacle(log, good), True)
            for thing in wrong:
                self.assertIs(shows_obstacle(log, thing), False, thing)

    def test_booleans_are_no_blocks_and_slots(self):
        # ("pushed", [(1, 1), (2, 4)]) holds, and True equals 1 for Python.
        log = Log(10, SERVERS, PUSHED)
        self.assertIs(shows_obstacle(log, ("pushed", [(1, 1), (2, 4)])), True)
        for step in ((True, 1), (1, True), (True, True)):
            self.assertIs(shows_obstacle(log, ("pushed", [step, (2, 4)])), False)

    def test_pairs_with_one_thing_changed(self):
        entries = [("ann", 5), ("ann", 5), ("bob", 6), ("ann", 4)]
        for good in (("twice", 0, 1), ("shared", 0, 2), ("back", 0, 3), ("shared", 2, 3), ("back", 1, 3)):
            kind, i, j = good
            for make in BOTH:
                log = make(10, SERVERS, entries)
                self.assertIs(shows_obstacle(log, good), True)
                for thing in ([kind, i, j], (kind, j, i), (kind, i, i), (kind, i - 4, j), (kind, i, j - 4),
                              (kind, i, 4), (kind, i, 10 ** 59), (kind, -(10 ** 59), j), (kind, i), (kind, i, j, j),
                              (kind, str(i), j), (kind, i, None), (kind, [i], j), ("", i, j), (None, i, j),
                              (kind.upper(), i, j), ("pushed", i, j), (kind, (i, j)), (kind, [(i, j)]), (good,)):
                    self.assertIs(shows_obstacle(log, thing), False, thing)

    def test_booleans_are_no_indices(self):
        log = Log(10, SERVERS, [("ann", 5), ("ann", 5)])
        self.assertIs(shows_obstacle(log, ("twice", 0, 1)), True)
        for thing in (("twice", False, 1), ("twice", 0, True), ("twice", False, True)):
            self.assertIs(shows_obstacle(log, thing), False)

    def test_any_object(self):
        for make in BOTH:
            for entries in ([], [("ann", 5)], PUSHED):
                for thing in any_objects():
                    self.assertIs(shows_obstacle(make(10, SERVERS, entries), thing), False, thing)
            found = [thing for thing in any_objects()
                     if shows_obstacle(make(10, SERVERS, [("ann", 5), ("ann", 5)]), thing)]
            self.assertEqual(found, [("twice", 0, 1)])

    def test_things_are_not_modified(self):
        steps = [(1, 2), (2, 4)]
        shows_obstacle(Log(10, SERVERS, PUSHED), ("pushed", steps))
        self.assertEqual(steps, [(1, 2), (2, 4)])

    def test_changed_steps_against_the_words(self):
        chance = random.Random(1)
        true = 0
        for _ in range(3000):
            log = pushed_log(chance)
            steps = obstacle(log)[1]
            for _ in range(chance.randint(1, 2)):
                steps = changed(chance, steps)
            said = shows_obstacle(log, ("pushed", steps))
            self.assertIs(said, is_pushed(log.size, log.servers, log.entries, steps), (log.entries, steps))
            true = true + said
        self.assertGreater(true, 100)
        self.assertLess(true, 2900)


def pushed_log(chance):
    """A log without a certificate of two entries that is not possible."""
    while True:
        servers = ["a", "b", "c"][:chance.randint(2, 3)]
        entries = []
        for _ in range(chance.randint(3, 8)):
            more = entries + [(chance.choice(servers), chance.randint(0, 20))]
            if not has_pair(3, more):
                entries = more
        log = Log(3, servers, entries)
        if obstacle(log) is not None:
            return log


def changed(chance, steps):
    """The steps with one block or slot changed, or a step less, or a step more."""
    place = chance.randrange(len(steps))
    block, slot = steps[place]
    way = chance.randint(0, 3)
    if way == 0:
        return steps[:place] + [(block + chance.choice((-1, 1)), slot)] + steps[place + 1:]
    if way == 1:
        return steps[:place] + [(block, slot + chance.choice((-1, 1)))] + steps[place + 1:]
    if way == 2 and len(steps) > 1:
        return steps[:place] + steps[place + 1:]
    return steps[:place] + [(chance.randint(0, block), chance.randint(0, slot))] + steps[place:]


class Slots(Raising):
    def test_ordinary(self):
        for make in BOTH:
            log = make(10, SERVERS, [("ann", 12), ("bob", 35), ("ann", 51)])
            self.assertEqual([earliest(log, block) for block in range(6)], [0, 0, 0, 0, 1, 1])
            self.assertEqual([latest(log, block) for block in range(6)], [0, 0, 1, 1, 2, 2])

    def test_no_entries(self):
        for make in BOTH:
            log = make(10, SERVERS, [])
            for block in (-1, 0, 1, GREAT):
                self.raises(InvalidBlock, earliest, log, block)
                self.raises(InvalidBlock, latest, log, block)

    def test_blocks_out_of_range_come_before_not_possible(self):
        for make in BOTH:
            for entries in ([("ann", 25)], PUSHED, [("ann", 29), ("ann", 20)]):
                log = make(10, SERVERS, entries)
                self.assertEqual(log.last_block(), 2)
                for ask in (earliest, latest):
                    for block in (-1, 3, GREAT, -GREAT):
                        self.raises(InvalidBlock, ask, log, block)

    def test_not_possible_keeps_the_obstacle(self):
        for make in BOTH:
            for entries in (PUSHED, [("ann", 5), ("ann", 5)], [("ann", 5), ("bob", 6)], [("bob", 25), ("bob", 15)]):
                log = make(10, SERVERS, entries)
                for ask in (earliest, latest):
                    for block in (0, log.last_block()):
                        found = self.raises(NotPossible, ask, log, block).obstacle
                        self.assertEqual(found, obstacle(log))
                        self.assertIs(shows_obstacle(log, found), True)

    def test_very_many_blocks(self):
        for make in BOTH:
            far = 10 ** 59
            log = make(1, SERVERS, [("bob", 7), ("ann", far), ("bob", 3 * far)])
            self.assertEqual(self.slots(log, (0, 6, 7)), [(0, 0), (0, 0), (0, 0)])
            self.assertEqual(self.slots(log, (8, far // 2, far - 1, far)), [(0, 1), (0, 1), (0, 1), (0, 1)])
            self.assertEqual(self.slots(log, (far + 1, 2 * far, 3 * far - 1, 3 * far)), [(1, 2)] * 4)
            self.raises(InvalidBlock, earliest, log, 3 * far + 1)

    def slots(self, log, blocks):
        return [(earliest(log, block), latest(log, block)) for block in blocks]

    def test_hidden_blocks_wait_for_a_server_that_can_take_them(self):
        # With one server, each hidden block is taken between the entries around it.
        log = Log(10 ** 30, ["a"], [("a", 10 ** 30), ("a", 10 ** 30 + 1), ("a", GREAT)])
        self.assertEqual(self.slots(log, (0, 1)), [(0, 0), (0, 0)])
        self.assertEqual(self.slots(log, (2, 10 ** 20, 10 ** 30 - 2)), [(2, 2), (2, 2), (2, 2)])
        self.assertEqual(self.slots(log, (10 ** 30 - 1,)), [(2, 2)])

    def test_200_entries_and_12_servers(self):
        entries = [(TWELVE[k % 12], (k + 1) * 10 ** 57) for k in range(200)]
        log = LosingLog(10 ** 20, TWELVE, entries)
        for k in (0, 1, 12, 100, 199):
            block = (k + 1) * 10 ** 37
            self.assertEqual(self.slots(log, (block - 1, block)), [(max(0, k - 11), k)] * 2)
        self.assertEqual(plain_window(10 ** 20, entries, "a", 10 ** 37), (0, 0))


if __name__ == "__main__":
    unittest.main()
