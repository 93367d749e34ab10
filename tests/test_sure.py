"""Sure numbers, and the last blocks of servers (points 2, 3 and 11)."""

import inspect
import unittest

from numberbooks import sure
from numberbooks.errors import InvalidBlock, InvalidServer, NotPossible
from numberbooks.logs import Log, LosingLog
from numberbooks.sure import can_end, is_sure, sure_numbers
from numberbooks.walks import obstacle
from tests.objects import IMPOSSIBLE, any_objects
from tests.raising import Raising

BOTH = (Log, LosingLog)
SERVERS = ["ann", "bob"]
TWELVE = list("abcdefghijkl")
GREAT = 10 ** 60 - 1


def ends(log, server):
    return [block for block in range(log.last_block() + 1) if can_end(log, server, block)]


class Interface(Raising):
    def test_functions_stand_in_the_file(self):
        for call, names in ((is_sure, ["log", "number"]), (sure_numbers, ["log"]),
                            (can_end, ["log", "server", "block"])):
            self.assertEqual(call.__module__, "numberbooks.sure")
            self.assertEqual(list(inspect.signature(call).parameters), names)
            self.assertTrue(inspect.isfunction(getattr(sure, call.__name__)))

    def test_by_name(self):
        log = Log(10, SERVERS, [("ann", 15)])
        self.assertIs(is_sure(number=15, log=log), True)
        self.assertEqual(sure_numbers(log=log), [(10, 15)])
        self.assertIs(can_end(block=1, server="ann", log=log), True)


class SureNumbers(Raising):
    def check(self, log, ranges):
        self.assertEqual(sure_numbers(log), ranges)
        for first, last in ranges:
            for number, said in ((first - 1, False), (first, True), ((first + last) // 2, True), (last, True),
                                 (last + 1, False)):
                self.assertIs(is_sure(log, number), said, number)

    def test_ordinary(self):
        entries = [("ann", 5), ("bob", 230), ("ann", 310)]
        # Block 1 is used up: whoever takes it has a later block.
        self.check(Log(100, SERVERS, entries), [(0, 230), (300, 310)])
        self.check(LosingLog(100, SERVERS, entries), [(0, 5), (200, 230), (300, 310)])
        # cy can take block 1 and use nothing of it.
        self.check(Log(100, SERVERS + ["cy"], entries), [(0, 99), (200, 230), (300, 310)])

    def test_no_entries(self):
        for make in BOTH:
            for size in (1, 10 ** 30):
                log = make(size, TWELVE, [])
                self.assertEqual(sure_numbers(log), [])
                for number in (0, 1, GREAT, -1, -GREAT):
                    self.assertIs(is_sure(log, number), False)

    def test_one_server(self):
        self.check(Log(10, ["a"], [("a", 35)]), [(0, 35)])
        self.check(LosingLog(10, ["a"], [("a", 35)]), [(30, 35)])
        self.check(Log(10, ["a"], [("a", GREAT - 5)]), [(0, GREAT - 5)])
        self.check(LosingLog(10, ["a"], [("a", GREAT - 5)]), [(GREAT - 9, GREAT - 5)])
        self.check(Log(10, ["a"], [("a", 0)]), [(0, 0)])

    def test_size_1(self):
        self.check(Log(1, SERVERS, [("bob", 0), ("ann", 1), ("bob", 3)]), [(0, 1), (3, 3)])
        self.check(LosingLog(1, SERVERS, [("bob", 0), ("ann", 1), ("bob", 3)]), [(0, 1), (3, 3)])
        self.check(Log(1, SERVERS, [("bob", GREAT)]), [(GREAT, GREAT)])

    def test_neighbours_are_put_together(self):
        for make in BOTH:
            self.check(make(10, SERVERS, [("ann", 9), ("bob", 19), ("ann", 25)]), [(0, 25)])
            self.check(make(10, SERVERS, [("ann", 9), ("bob", 15), ("bob", 18)]), [(0, 18)])
        self.check(LosingLog(10, SERVERS, [("ann", 8), ("bob", 19), ("ann", 25)]), [(0, 8), (10, 25)])
        self.check(Log(10, SERVERS, [("ann", 8), ("bob", 19), ("ann", 25)]), [(0, 25)])
        self.check(Log(10, SERVERS, [("ann", 8), ("bob", 18), ("ann", 25)]), [(0, 18), (20, 25)])

    def test_the_others_have_to_go_on(self):
        # bob is through with entry 0, so that blocks 1 to 3 are ann's, who uses them up before block 4.
        log = Log(10, SERVERS, [("bob", 5), ("ann", 45)])
        self.assertEqual((ends(log, "ann"), ends(log, "bob")), ([4], [0, 1, 2, 3]))
        self.check(log, [(0, 5), (40, 45)])
        # Here bob takes blocks 1 to 3 before entry 0: then ann has not yet used her block 0.
        log = Log(10, SERVERS, [("bob", 35), ("ann", 5), ("ann", 45)])
        self.assertEqual((ends(log, "ann"), ends(log, "bob")), ([4], [3]))
        self.check(log, [(0, 35), (40, 45)])

    def test_very_many_blocks(self):
        far = 10 ** 59
        log = Log(10, SERVERS + ["cy"], [("cy", 3), ("ann", 15), ("bob", far), ("ann", 9 * far + 4), ("cy", GREAT)])
        # Whoever takes a block before bob's has a later one; behind it, bob can take one and stop.
        self.check(log, [(0, far), (9 * far, 9 * far + 4), (GREAT - 9, GREAT)])
        for number in (far + 1, far + 9, far + 10, 5 * far, 9 * far - 1, 9 * far + 5, GREAT - 10, GREAT + 1):
            self.assertIs(is_sure(log, number), False)
        log = Log(10 ** 30, ["a"], [("a", 10 ** 45), ("a", GREAT)])
        self.check(log, [(0, GREAT)])

    def test_200_entries_and_12_servers(self):
        entries = [(TWELVE[k % 12], (k + 1) * 10 ** 57) for k in range(200)]
        steady = sure_numbers(Log(10 ** 20, TWELVE, entries))
        losing = sure_numbers(LosingLog(10 ** 20, TWELVE, entries))
        self.assertEqual(losing, [(number, number) for _, number in entries])
        # Up to entry 188, the first one behind which no more of its server is seen, each server has a later block.
        self.assertEqual(steady, [(0, entries[188][1])] + [(number, number) for _, number in entries[189:]])

    def test_numbers_that_are_never_sure(self):
        for make in BOTH:
            log = make(10, SERVERS, [("ann", 15), ("bob", 29)])
            for number in (-1, -10, -GREAT, 30, 31, 39, 40, GREAT):
                self.assertIs(is_sure(log, number), False)
            self.assertIs(is_sure(log, 29), True)
            self.assertIs(is_sure(make(10, SERVERS, [("ann", 15), ("bob", 28)]), 29), False)
            log = make(10, SERVERS, [("ann", 1)])
            self.assertEqual((is_sure(log, 0), is_sure(log, 1), is_sure(log, 2)), (True, True, False))
            self.assertEqual((is_sure(log, False), is_sure(log, True)), (False, False))

    def test_lists_are_new(self):
        log = Log(10, SERVERS, [("ann", 15)])
        sure_numbers(log).clear()
        self.assertEqual(sure_numbers(log), [(10, 15)])
        self.assertIsNot(sure_numbers(log), sure_numbers(log))


class Ends(Raising):
    def test_ordinary(self):
        for make in BOTH:
            log = make(10, SERVERS, [("ann", 12), ("bob", 35), ("ann", 51)])
            self.assertEqual((ends(log, "ann"), ends(log, "bob")), ([5], [3, 4]))
            log = make(10, SERVERS + ["cy"], [("ann", 12), ("bob", 35)])
            self.assertEqual((ends(log, "ann"), ends(log, "bob"), ends(log, "cy")), ([1, 2], [3], [0, 2]))

    def test_results_are_booleans(self):
        for make in BOTH:
            log = make(10, SERVERS, [("ann", 12), ("bob", 35), ("ann", 51)])
            for block in range(6):
                for server in SERVERS:
                    self.assertIn(can_end(log, server, block), (True, False))
                    self.assertIs(can_end(log, server, block).__class__, bool)

    def test_one_server_and_block_0(self):
        for make in BOTH:
            self.assertEqual(ends(make(10, ["a"], [("a", 35)]), "a"), [3])
            log = make(10 ** 30, TWELVE, [("c", 5)])
            self.assertEqual([ends(log, name) for name in TWELVE], [[]] * 2 + [[0]] + [[]] * 9)

    def test_very_many_blocks(self):
        far = 10 ** 59
        for make in BOTH:
            log = make(1, SERVERS + ["cy"], [("ann", 0), ("cy", far), ("ann", 2 * far)])
            for block in (1, far // 2, far - 1):
                self.assertEqual([can_end(log, name, block) for name in log.servers], [False, True, False])
            for block in (far + 1, 2 * far - 1):
                self.assertEqual([can_end(log, name, block) for name in log.servers], [False, True, True])
            self.assertEqual([can_end(log, name, far) for name in log.servers], [False, False, True])
            self.assertEqual([can_end(log, name, 2 * far) for name in log.servers], [True, False, False])
            # Without the last server that can go on, none can end.
            log = make(1, SERVERS, [("bob", 2 * far), ("ann", 0), ("ann", 3 * far)])
            for block in (1, far, 2 * far - 1):
                self.assertEqual([can_end(log, name, block) for name in SERVERS], [False, False])
            for block in (2 * far + 1, 3 * far - 1):
                self.assertEqual([can_end(log, name, block) for name in SERVERS], [False, True])

    def test_errors_in_sequence(self):
        for make in BOTH:
            for entries in [[], [("ann", 12)]] + list(IMPOSSIBLE):
                log = make(10, SERVERS, entries)
                for thing in any_objects() + ["cy", "an", ["ann"], ("ann",), "ann\n"]:
                    if thing != "ann":
                        for block in (0, -1, log.last_block(), GREAT):
                            self.raises(InvalidServer, can_end, log, thing, block)
                for block in (-1, -GREAT, log.last_block() + 1, GREAT):
                    self.raises(InvalidBlock, can_end, log, "bob", block)

    def test_not_possible(self):
        for make in BOTH:
            for entries in IMPOSSIBLE:
                log = make(10, SERVERS, entries)
                calls = [(sure_numbers, ())] + [(is_sure, (number,)) for number in (0, -1, 15, GREAT)]
                calls = calls + [(can_end, ("bob", block)) for block in (0, log.last_block())]
                for call, given in calls:
                    self.assertEqual(self.raises(NotPossible, call, log, *given).obstacle, obstacle(log))


if __name__ == "__main__":
    unittest.main()
