"""Owners, lists, sure numbers and histories against all histories that can be tried (points 8 to 11)."""

import random
import unittest

from numberbooks.counting import count_lists, list_index, nth_list
from numberbooks.errors import InvalidNumber, InvalidOwners, NotPossible
from numberbooks.histories import History, history_for
from numberbooks.logs import Log, LosingLog
from numberbooks.owners import owners_of, slots_of, stretches, sure_owner
from numberbooks.sure import can_end, is_sure, sure_numbers
from numberbooks.walks import obstacle
from tests.all_logs import KINDS, AllLogs
from tests.tried import Tried, all_logs, is_part, narrow_entries, plain_earliest, plain_lists, plain_uses
from tests.tried import random_entries, ranges_of, wide_places


def joined_blocks(rows):
    """The tuples (first, last, owners) of neighbouring blocks with equal owners."""
    firsts = [block for block in range(len(rows)) if block == 0 or rows[block - 1] != rows[block]]
    lasts = [block for block in range(len(rows)) if block + 1 == len(rows) or rows[block + 1] != rows[block]]
    return [(first, last, rows[first]) for first, last in zip(firsts, lasts)]


class Checks(AllLogs):
    def check_not_possible(self, log):
        calls = [lambda: list(stretches(log)), lambda: history_for(log), lambda: count_lists(log),
                 lambda: nth_list(log, 0), lambda: list_index(log, []), lambda: is_sure(log, 0),
                 lambda: sure_numbers(log), lambda: owners_of(log, 0), lambda: sure_owner(log, log.last_block()),
                 lambda: slots_of(log, log.servers[0], 0), lambda: can_end(log, log.servers[-1], 0)]
        for call in calls:
            with self.assertRaises(NotPossible) as caught:
                call()
            self.assertIs(caught.exception.__class__, NotPossible)
            self.assertEqual(caught.exception.obstacle, obstacle(log))

    def check_owners(self, log, rows):
        """rows has for each block a dict of the possible slots of each server."""
        for block, slots in enumerate(rows):
            names = [server for server in log.servers if slots[server]]
            self.assertEqual(owners_of(log, block), names)
            self.assertEqual(sure_owner(log, block), names[0] if len(names) == 1 else None)
            for server in log.servers:
                pair = slots_of(log, server, block)
                said = [] if pair is None else list(range(pair[0], pair[1] + 1))
                self.assertEqual(said, slots[server], (log.size, log.entries, block, server))
        names = [[server for server in log.servers if slots[server]] for slots in rows]
        self.assertEqual(list(stretches(log)), joined_blocks(names))

    def check_lists(self, log, lists):
        self.assertEqual(count_lists(log), len(lists), (log.size, log.entries))
        for index, owners in enumerate(lists):
            self.assertEqual(nth_list(log, index), owners)
            self.assertEqual(list_index(log, owners), index)
        for index in (-1, len(lists)):
            self.assertRaises(InvalidNumber, nth_list, log, index)
        for block in range(log.last_block() + 1):
            for server in log.servers:
                changed = lists[0][:block] + [server] + lists[0][block + 1:]
                if changed not in lists:
                    self.assertRaises(InvalidOwners, list_index, log, changed)

    def check_sure(self, log, numbers):
        self.assertEqual(sure_numbers(log), ranges_of(numbers), (log.size, log.entries))
        for number in range(-1, (log.last_block() + 2) * log.size):
            self.assertIs(is_sure(log, number), number in numbers, (log.size, log.entries, number))

    def check_history(self, log):
        history = history_for(log)
        uses = plain_uses(log.size, log.servers, history.events)
        self.assertEqual(list(history.uses()), uses)
        self.assertTrue(is_part(log.entries, uses), (log.entries, uses))
        self.assertIs(history(log), True)
        self.assertEqual((history.size, history.servers), (log.size, log.servers))
        self.assertEqual(history_for(log).events, history.events)
        if log.last_block() >= 0:
            list_index(log, history.owners()[:log.last_block() + 1])


class EventByEvent(Checks):
    def check_log(self, make, losing, size, servers, entries):
        log = make(size, servers, entries)
        tried = Tried(size, servers, entries, losing)
        if not tried.possible:
            self.check_not_possible(log)
            return 0
        blocks = range(log.last_block() + 1)
        slots = range(len(log) + 1)
        self.check_owners(log, [{server: [slot for slot in slots if (block, server, slot) in tried.takes]
                                 for server in servers} for block in blocks])
        self.check_lists(log, [[servers[place] for place in places] for places in tried.lists()])
        self.check_sure(log, [n for n in range((log.last_block() + 1) * size) if tried.is_always_used(n)])
        for block in blocks:
            for server in servers:
                self.assertIs(can_end(log, server, block), tried.ends_with(server, block),
                              (size, entries, server, block))
        self.check_history(log)
        return 1

    def test_one_server(self):
        self.check_all(1, ["ann"], 5, 3)
        self.check_all(2, ["ann"], 6, 3)
        self.check_all(3, ["ann"], 9, 2)

    def test_two_servers_size_1(self):
        self.check_all(1, ["bob", "ann"], 5, 3)

    def test_two_servers_size_2(self):
        self.check_all(2, ["ann", "bob"], 8, 2)

    def test_three_servers(self):
        self.check_all(1, ["cy", "ann", "bob"], 4, 2)
        self.check_all(2, ["ann", "bob", "cy"], 6, 1)

    def test_some_longer_logs(self):
        chance = random.Random(50)
        possible = 0
        for make, losing in KINDS:
            for _ in range(150):
                size = chance.randint(1, 3)
                servers = ["bob", "ann", "cy"][:chance.randint(2, 3)]
                entries = random_entries(chance, size, servers, chance.randint(3, 6), chance.randint(3, 5))
                possible = possible + self.check_log(make, losing, size, servers, entries)
        self.assertGreater(possible, 100)
        self.assertLess(possible, 300)


class ListByList(Checks):
    """Longer logs, against the windows of all blocks and the lists of owners that fit them one by one."""

    def check_log(self, make, size, servers, entries):
        log = make(size, servers, entries)
        lists = plain_lists(size, servers, entries)
        if not lists:
            self.check_not_possible(log)
            return 0
        self.check_lists(log, lists)
        ends = {(owner, len(owners) - 1 - owners[::-1].index(owner)) for owners in lists for owner in owners}
        seen = {number // size: number for _, number in sorted(entries, key=lambda entry: entry[1])}
        numbers = []
        for block in range(log.last_block() + 1):
            for server in servers:
                self.assertIs(can_end(log, server, block), (server, block) in ends, (size, entries, server, block))
            whole = make is Log and not any([(server, block) in ends for server in servers])
            last = block * size + size - 1 if whole else seen.get(block, -1)
            numbers.extend(range(block * size, last + 1))
            self.assertEqual(owners_of(log, block), [s for s in servers if any([row[block] == s for row in lists])])
        self.check_sure(log, numbers)
        self.check_history(log)
        return 1

    def test_longer_logs(self):
        chance = random.Random(9)
        possible = 0
        for _ in range(500):
            size = chance.randint(1, 4)
            servers = ["c", "a", "b", "d"][:chance.randint(1, 4)]
            entries = random_entries(chance, size, servers, chance.randint(2, 15), chance.randint(3, 9))
            if len(plain_lists(size, servers, entries)) <= 300:
                possible = possible + self.check_log(chance.choice((Log, LosingLog)), size, servers, entries)
        self.assertGreater(possible, 150)


class ManyHiddenBlocks(unittest.TestCase):
    """A gap of very many hidden blocks is like one of three: only its last block may differ from the others."""

    def test_wide_gaps_are_like_narrow_ones(self):
        chance = random.Random(15)
        possible = 0
        for _ in range(400):
            servers = ["b", "a", "c"][:chance.randint(1, 3)]
            entries = narrow_entries(chance, servers)
            if plain_earliest(1, servers, entries) is not None:
                self.check(chance.choice((Log, LosingLog)), chance.choice((1, 3, 10 ** 30)), servers, entries)
                possible = possible + 1
        self.assertGreater(possible, 100)

    def check(self, make, size, servers, entries):
        narrow = make(1, servers, entries)
        places = wide_places(entries)
        log = make(size, servers, [(server, places[block][0] * size) for server, block in entries])
        for block in range(narrow.last_block() + 1):
            for there in places[block]:
                self.assertEqual(owners_of(log, there), owners_of(narrow, block))
                self.assertEqual(sure_owner(log, there), sure_owner(narrow, block))
                for server in servers:
                    self.assertEqual(slots_of(log, server, there), slots_of(narrow, server, block))
                    self.assertIs(can_end(log, server, there), can_end(narrow, server, block))
                first = there * size
                self.assertIs(is_sure(log, first), is_sure(narrow, block))
        self.check_rows(log, narrow, places)

    def check_rows(self, log, narrow, places):
        rows = [(places[first][0], places[last][-1], names) for first, last, names in stretches(narrow)]
        self.assertEqual(list(stretches(log)), rows)
        seen = [number for _, number in narrow.entries]
        ranges = []
        for block in range(narrow.last_block() + 1):
            open_end = any([can_end(narrow, server, block) for server in narrow.servers])
            first = places[block][0] * log.size
            if log.KIND == "losing" or open_end:
                part = [(first, first)] if block in seen else []
            else:
                part = [(first, places[block][-1] * log.size + log.size - 1)]
            if part and ranges and ranges[-1][1] + 1 == first:
                part = [(ranges.pop()[0], part[0][1])]
            ranges = ranges + part
        self.assertEqual(sure_numbers(log), ranges)
        for first, last in ranges:
            for number, sure in ((first - 1, False), (first, True), (last, True), (last + 1, False)):
                self.assertIs(is_sure(log, number), sure)


class AllEvents(unittest.TestCase):
    def all_events(self, servers, most):
        rows = [[]]
        for _ in range(most):
            yield from rows
            rows = [row + [(kind, server)] for row in rows for kind in ("take", "use") for server in servers]
        yield from rows

    def test_what_is_allowed(self):
        for size, servers, most in ((1, ["a"], 7), (2, ["a"], 7), (1, ["a", "b"], 5), (2, ["b", "a"], 5),
                                    (10 ** 30, ["a", "b"], 4)):
            allowed = 0
            for events in self.all_events(servers, most):
                uses = plain_uses(min(size, 10), servers, events)
                try:
                    history = History(size, servers, events)
                except ValueError as error:
                    self.assertEqual((error.__class__.__name__, uses), ("InvalidEvents", None), events)
                    continue
                allowed = allowed + 1
                self.assertEqual(history.events, events)
                self.assertEqual(history.owners(), [server for kind, server in events if kind == "take"])
                if size < 10:
                    self.assertEqual(list(history.uses()), uses)
            self.assertGreater(allowed, most - 1)

    def test_what_is_shown(self):
        events = [("take", "b"), ("use", "b"), ("take", "a"), ("use", "b"), ("use", "a"), ("take", "b"), ("use", "b")]
        uses = plain_uses(2, ["a", "b"], events)
        history = History(2, ["a", "b"], events)
        for make, _ in KINDS:
            shown = 0
            for entries in all_logs(["a", "b"], 5, 4):
                said = history(make(2, ["a", "b"], entries))
                self.assertIs(said, is_part(entries, uses), entries)
                shown = shown + said
            self.assertEqual(shown, 2 ** 4)


if __name__ == "__main__":
    unittest.main()
