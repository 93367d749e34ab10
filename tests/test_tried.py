"""obstacle, earliest, latest and window against all histories that can be tried (points 3, 4 and 7)."""

import random
import unittest

from numberbooks.errors import NotPossible
from numberbooks.logs import Log, LosingLog
from numberbooks.walks import earliest, latest, obstacle, shows_obstacle, window
from tests.all_logs import KINDS, AllLogs
from tests.tried import Tried, has_pair, plain_earliest, plain_latest, plain_window, random_entries, shows


class AgainstAllHistories(AllLogs):
    def check_log(self, make, losing, size, servers, entries):
        log = make(size, servers, entries)
        tried = Tried(size, servers, entries, losing)
        found = obstacle(log)
        self.assertEqual(found is None, tried.possible, (size, entries))
        if found is not None:
            self.check_obstacle(log, found)
            return 0
        for block in range(log.last_block() + 1):
            low = earliest(log, block)
            high = latest(log, block)
            slots = tried.slots(block)
            self.assertEqual((low, high), (min(slots), max(slots)), (size, entries, block))
            for server in servers:
                taken = [slot for slot in range(len(log) + 1) if (block, server, slot) in tried.takes]
                pair = window(log, server, block) or (1, 0)
                said = [slot for slot in range(max(low, pair[0]), min(high, pair[1]) + 1)]
                self.assertEqual(said, taken, (size, entries, block, server))
        return 1

    def check_obstacle(self, log, found):
        self.assertTrue(shows(log.size, log.servers, log.entries, found), (log.entries, found))
        self.assertIs(shows_obstacle(log, found), True, (log.entries, found))
        for block in range(log.last_block() + 1):
            for ask in (earliest, latest):
                with self.assertRaises(NotPossible) as caught:
                    ask(log, block)
                self.assertIs(caught.exception.__class__, NotPossible)
                self.assertEqual(caught.exception.obstacle, found)

    def test_one_server(self):
        self.check_all(1, ["ann"], 5, 3)
        self.check_all(2, ["ann"], 6, 3)

    def test_two_servers_size_1(self):
        self.check_all(1, ["ann", "bob"], 5, 3)

    def test_two_servers_size_2(self):
        self.check_all(2, ["ann", "bob"], 6, 3)

    def test_three_servers(self):
        self.check_all(1, ["ann", "bob", "cy"], 4, 2)
        self.check_all(2, ["ann", "bob", "cy"], 6, 2)

    def test_some_longer_logs(self):
        chance = random.Random(20)
        pushed = 0
        for make, losing in KINDS:
            for _ in range(700):
                size = chance.randint(1, 3)
                servers = ["bob", "ann", "cy"][:chance.randint(2, 3)]
                entries = random_entries(chance, size, servers, chance.randint(3, 6), 5)
                self.check_log(make, losing, size, servers, entries)
                found = obstacle(make(size, servers, entries))
                if found is not None and found[0] == "pushed":
                    pushed = pushed + 1
        self.assertGreater(pushed, 50)


class AgainstTheWords(unittest.TestCase):
    def test_longer_logs_against_the_words_of_the_results(self):
        chance = random.Random(7)
        kinds = set()
        for _ in range(900):
            size = chance.randint(1, 4)
            servers = ["a", "b", "c", "d", "e"][:chance.randint(1, 5)]
            entries = random_entries(chance, size, servers, chance.randint(0, 25), chance.randint(3, 40))
            log = chance.choice((Log, LosingLog))(size, servers, entries)
            found = obstacle(log)
            kinds.add("none" if found is None else found[0])
            low = None if has_pair(size, entries) else plain_earliest(size, servers, entries)
            self.assertEqual(found is None, low is not None)
            if found is not None:
                self.assertTrue(shows(size, servers, entries, found))
                continue
            blocks = range(log.last_block() + 1)
            self.assertEqual([earliest(log, block) for block in blocks], low)
            self.assertEqual([latest(log, block) for block in blocks], plain_latest(size, servers, entries))
        self.assertEqual(kinds, {"none", "pushed"})

    def test_windows_of_any_log(self):
        chance = random.Random(3)
        for _ in range(500):
            size = chance.randint(1, 4)
            servers = ["a", "b", "c"][:chance.randint(1, 3)]
            entries = [(chance.choice(servers), chance.randint(0, 30)) for _ in range(chance.randint(0, 8))]
            log = chance.choice((Log, LosingLog))(size, servers, entries)
            for block in range(35):
                for server in servers:
                    self.assertEqual(window(log, server, block), plain_window(size, entries, server, block))

    def test_a_pair_is_found_wherever_there_is_one(self):
        chance = random.Random(11)
        for _ in range(1500):
            size = chance.randint(1, 5)
            servers = ["a", "b", "c"][:chance.randint(1, 3)]
            entries = [(chance.choice(servers), chance.randint(0, 25)) for _ in range(chance.randint(2, 6))]
            log = Log(size, servers, entries)
            found = obstacle(log)
            self.assertEqual(found is not None and found[0] != "pushed", has_pair(size, entries))
            if found is not None:
                self.assertTrue(shows(size, servers, entries, found))
                self.assertIs(shows_obstacle(log, found), True)


class ManyHiddenBlocks(unittest.TestCase):
    def test_wide_gaps_are_like_narrow_ones(self):
        chance = random.Random(5)
        for _ in range(300):
            size = chance.choice((1, 3, 10 ** 30))
            servers = ["a", "b", "c"][:chance.randint(1, 3)]
            narrow = random_entries(chance, 1, servers, chance.randint(1, 12), 24)
            wide = {block: wide_block(block) for block in range(26)}
            entries = [(server, wide[block] * size + chance.randint(0, size - 1)) for server, block in narrow]
            log = Log(size, servers, entries)
            found = obstacle(log)
            if plain_earliest(1, servers, narrow) is None:
                self.assertTrue(shows(size, servers, entries, found))
                self.assertIs(shows_obstacle(log, found), True)
                continue
            self.assertIsNone(found)
            low = plain_earliest(1, servers, narrow)
            high = plain_latest(1, servers, narrow)
            seen = [block for _, block in narrow]
            for block in range(log.last_block() // 10 ** 25 + 1):
                asked = [wide[block]]
                if block not in seen:
                    asked = asked + [wide[block] + 1, wide[block] + 10 ** 24, wide[block + 1] - 1]
                for there in asked:
                    self.assertEqual((earliest(log, there), latest(log, there)), (low[block], high[block]))


def wide_block(block):
    """Blocks far apart: a block of the narrow log becomes the first one of its part.

    The hidden blocks that this puts below a seen one change no slot: its holder has the same window for them.
    """
    return block * 10 ** 25


if __name__ == "__main__":
    unittest.main()
