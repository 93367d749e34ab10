"""can_follow and next_numbers against all histories that can be tried (points 3, 4 and 12)."""

import random
import unittest

from numberbooks.errors import NotPossible
from numberbooks.logs import Log, LosingLog
from numberbooks.nexts import can_follow, next_numbers
from numberbooks.owners import owners_of
from numberbooks.sure import can_end, is_sure
from numberbooks.walks import obstacle
from tests.all_logs import KINDS, AllLogs
from tests.tried import Shown, has_pair, narrow_entries, plain_earliest, random_entries, ranges_of, wide_places


class Checks(AllLogs):
    def check_not_possible(self, log):
        for server in log.servers:
            for call in (lambda: next_numbers(log, server), lambda: can_follow(log, server, 0),
                         lambda: can_follow(log, server, -1)):
                with self.assertRaises(NotPossible) as caught:
                    call()
                self.assertIs(caught.exception.__class__, NotPossible)
                self.assertEqual(caught.exception.obstacle, obstacle(log))

    def check_following(self, log, server, numbers, limit):
        """numbers are those below the limit that can follow; the limit is some blocks above M."""
        for number in range(-2, limit):
            said = can_follow(log, server, number)
            self.assertIs(said, number in numbers, (log.size, log.entries, server, number))
            if number >= 0:
                self.assertIs(obstacle(log.with_entry(server, number)) is None, said)
            if said:
                # Without this entry the history may end before it.
                self.assertIs(is_sure(log, number), False)
                if number // log.size <= log.last_block():
                    self.assertIn(server, owners_of(log, number // log.size))
                    self.assertIs(can_end(log, server, number // log.size), True)
        ranges = ranges_of(numbers)
        self.assertEqual(ranges[-1][1], limit - 1)
        self.assertEqual(next_numbers(log, server), ranges[:-1] + [(ranges[-1][0], None)])


class EventByEvent(Checks):
    def check_log(self, make, losing, size, servers, entries):
        log = make(size, servers, entries)
        if not Shown(size, servers, entries, losing).possible:
            self.check_not_possible(log)
            return 0
        limit = (log.last_block() + 3) * size
        for server in servers:
            numbers = [number for number in range(limit)
                       if Shown(size, servers, entries + [(server, number)], losing).possible]
            self.check_following(log, server, numbers, limit)
        return 1

    def test_one_server(self):
        self.check_all(1, ["ann"], 5, 3)
        self.check_all(2, ["ann"], 6, 3)
        self.check_all(3, ["ann"], 9, 2)

    def test_two_servers_size_1(self):
        self.check_all(1, ["bob", "ann"], 5, 2)
        self.check_all(1, ["ann", "bob"], 3, 3)

    def test_two_servers_size_2(self):
        self.check_all(2, ["ann", "bob"], 8, 2)

    def test_two_servers_size_3(self):
        self.check_all(3, ["ann", "bob"], 9, 1)

    def test_three_servers(self):
        self.check_all(1, ["cy", "ann", "bob"], 4, 2)
        self.check_all(2, ["ann", "bob", "cy"], 6, 1)

    def test_some_longer_logs(self):
        chance = random.Random(80)
        possible = 0
        for make, losing in KINDS:
            for _ in range(60):
                size = chance.randint(1, 2)
                servers = ["bob", "ann", "cy"][:chance.randint(2, 3)]
                entries = random_entries(chance, size, servers, chance.randint(3, 5), chance.randint(3, 5))
                possible = possible + self.check_log(make, losing, size, servers, entries)
        self.assertGreater(possible, 40)
        self.assertLess(possible, 120)


class ByTheWords(Checks):
    """Longer logs, with the words of R1 for the log with an entry more."""

    def test_longer_logs(self):
        chance = random.Random(81)
        possible = 0
        for _ in range(250):
            size = chance.randint(1, 4)
            servers = ["c", "a", "b", "d"][:chance.randint(1, 4)]
            entries = random_entries(chance, size, servers, chance.randint(2, 15), chance.randint(3, 9))
            log = chance.choice((Log, LosingLog))(size, servers, entries)
            if plain_earliest(size, servers, entries) is None:
                self.check_not_possible(log)
                continue
            possible = possible + 1
            limit = (log.last_block() + 2) * size
            for server in servers:
                numbers = [number for number in range(limit) if self.fits(size, servers, entries + [(server, number)])]
                self.check_following(log, server, numbers, limit)
        self.assertGreater(possible, 80)
        self.assertLess(possible, 250)

    def fits(self, size, servers, entries):
        return not has_pair(size, entries) and plain_earliest(size, servers, entries) is not None


class ManyHiddenBlocks(unittest.TestCase):
    """A gap of very many hidden blocks is like one of three: only its last block may differ from the others."""

    def test_wide_gaps_are_like_narrow_ones(self):
        chance = random.Random(82)
        possible = 0
        for _ in range(300):
            servers = ["b", "a", "c"][:chance.randint(1, 3)]
            blocks = narrow_entries(chance, servers)
            if plain_earliest(1, servers, blocks) is not None:
                self.check(chance.choice((Log, LosingLog)), chance.choice((2, 3, 10 ** 30)), servers, blocks)
                possible = possible + 1
        self.assertGreater(possible, 80)

    def check(self, make, size, servers, blocks):
        """Each entry is the first number of its block; the last number of each block is asked for."""
        narrow = make(2, servers, [(server, 2 * block) for server, block in blocks])
        places = wide_places(blocks)
        log = make(size, servers, [(server, places[block][0] * size) for server, block in blocks])
        for server in servers:
            following = []
            for block in places:
                said = can_follow(narrow, server, 2 * block + 1)
                following.extend([block] if said else [])
                for there in places[block]:
                    self.assertIs(can_follow(log, server, there * size + size - 1), said)
                    self.assertIs(obstacle(log.with_entry(server, there * size + size - 1)) is None, said)
            ranges = self.wide_ranges(log, server, following, places)
            self.assertEqual(next_numbers(log, server), ranges, (log.entries, server))

    def wide_ranges(self, log, server, following, places):
        """The ranges of the blocks that can follow in the narrow log, in the numbers of the wide one."""
        entries = log.entries
        after = max([number for name, number in entries if name == server], default=-1) + 1
        ranges = []
        for block in following:
            first = max(places[block][0] * log.size, after)
            last = places[block][-1] * log.size + log.size - 1
            if ranges and ranges[-1][1] + 1 == first:
                first = ranges.pop()[0]
            ranges.append((first, last))
        first = (log.last_block() + 1) * log.size
        if ranges and ranges[-1][1] + 1 == first:
            first = ranges.pop()[0]
        return ranges + [(first, None)]


if __name__ == "__main__":
    unittest.main()
