"""What the modules answer about the same log, history, live log or text agrees (points 3 and 4)."""

import random
import unittest

from numberbooks.counting import count_lists, list_index, nth_list
from numberbooks.errors import NotPossible
from numberbooks.histories import History, history_for
from numberbooks.live import LiveLog, LiveLosingLog
from numberbooks.logs import Log, LosingLog
from numberbooks.nexts import can_follow, next_numbers
from numberbooks.owners import owners_of, slots_of, stretches, sure_owner
from numberbooks.session import session
from numberbooks.sure import can_end, is_sure, sure_numbers
from numberbooks.texts import read_events, read_log, write_events, write_log
from numberbooks.walks import earliest, latest, obstacle, shows_obstacle, window
from tests.raising import Raising
from tests.tried import random_entries

KINDS = ((Log, LiveLog), (LosingLog, LiveLosingLog))


class Together(Raising):
    def test_random_logs(self):
        chance = random.Random(34)
        possible = 0
        for make, make_live in KINDS:
            for _ in range(120):
                size = chance.randint(1, 6)
                servers = ["bob", "ann", "cy", "d"][:chance.randint(1, 4)]
                entries = random_entries(chance, size, servers, chance.randint(0, 12), chance.randint(1, 8))
                log = make(size, servers, entries)
                self.check_texts(log)
                if obstacle(log) is None:
                    possible = possible + 1
                    self.check_blocks(log)
                    self.check_history(log)
                    self.check_live(log, make_live)
                else:
                    self.check_not_possible(log, make_live)
        self.assertGreater(possible, 80)
        self.assertLess(possible, 240)

    def check_texts(self, log):
        self.assertEqual(read_log(write_log(log)), log)
        self.assertIs(read_log(write_log(log)).__class__, log.__class__)
        self.assertEqual(obstacle(read_log(write_log(log))), obstacle(log))

    def check_blocks(self, log):
        lists = [nth_list(log, index) for index in range(min(count_lists(log), 30))]
        self.assertEqual([list_index(log, owners) for owners in lists], list(range(len(lists))))
        rows = list(stretches(log))
        for block in range(log.last_block() + 1):
            names = owners_of(log, block)
            self.assertEqual([row[2] for row in rows if row[0] <= block <= row[1]], [names])
            self.assertIs(sure_owner(log, block) is None, len(names) > 1)
            slots = [slots_of(log, name, block) for name in names]
            self.assertEqual(earliest(log, block), min([first for first, _ in slots]))
            self.assertEqual(latest(log, block), max([last for _, last in slots]))
            for name, (first, last) in zip(names, slots):
                low, high = window(log, name, block)
                self.assertTrue(low <= first <= last <= high)
            for name in log.servers:
                ends = can_end(log, name, block)
                self.assertLessEqual(ends, name in names)
                self.assertIs(can_follow(log, name, block * log.size + log.size - 1),
                              ends and (name, block * log.size + log.size - 1) not in log)
            for owners in lists:
                self.assertIn(owners[block], names)
        for first, last in sure_numbers(log):
            self.assertFalse(any([can_follow(log, name, n) for name in log.servers for n in (first, last)]))
        self.assertTrue(all([is_sure(log, number) for _, number in log.entries]))

    def check_history(self, log):
        history = history_for(log)
        self.assertIs(history(log), True)
        events = read_events(write_events(history))
        self.assertEqual(events, history.events)
        self.assertIs(History(log.size, log.servers, events)(read_log(write_log(log))), True)
        uses = list(history.uses())
        for first, last in sure_numbers(log):
            used = [number for _, number in uses]
            self.assertTrue(all([number in used for number in range(first, last + 1)]))
        # A history shows all of its uses, one behind the other.
        for count in range(len(uses)):
            front = log.__class__(log.size, log.servers, uses[:count])
            self.assertIs(history(front), True)
            self.assertIs(can_follow(front, *uses[count]), True)

    def check_live(self, log, make_live):
        live = make_live(log.size, log.servers)
        rows = [f"log {log.KIND} {log.size} {','.join(log.servers)}"]
        for server, number in log.entries:
            live.see(server, number)
            rows.append(f"see {server} {number}")
        self.assertEqual(live.now(), log)
        for server in log.servers:
            ranges = next_numbers(log, server)
            rows.append("next " + server)
            for first, last in ranges:
                twin = live.twin()
                twin.see(server, first)
                self.assertEqual(twin.now(), log.with_entry(server, first))
                outside = [first - 1] if last is None else [first - 1, last + 1]
                for number in [number for number in outside if number >= 0]:
                    self.assertEqual(self.raises(NotPossible, live.see, server, number).obstacle,
                                     obstacle(log.with_entry(server, number)))
        answers = session("\n".join(rows + ["text"])).split("\n")
        self.assertEqual(answers[:len(log) + 1], ["ok"] * (len(log) + 1))
        told = [[word.split("..") for word in answer.split(" ")] for answer in answers[len(log) + 1:-1]]
        self.assertEqual(told, [[[str(first), "" if last is None else str(last)]
                                 for first, last in next_numbers(log, server)] for server in log.servers])
        self.assertEqual(answers[-1], write_log(log))

    def check_not_possible(self, log, make_live):
        found = obstacle(log)
        self.assertIs(shows_obstacle(log, found), True)
        live = make_live(log.size, log.servers)
        for index, (server, number) in enumerate(log.entries):
            front = log.front(index + 1)
            if obstacle(front) is not None:
                self.assertEqual(self.raises(NotPossible, live.see, server, number).obstacle, obstacle(front))
                self.assertIs(can_follow(log.front(index), server, number), False)
                break
            self.assertIs(can_follow(log.front(index), server, number), True)
            live.see(server, number)
        self.assertLess(len(live), len(log))
        rows = [f"log {log.KIND} {log.size} {','.join(log.servers)}"]
        rows = rows + [f"see {server} {number}" for server, number in log.entries[:len(live) + 1]]
        self.assertEqual(session("\n".join(rows)).split("\n"), ["ok"] * (len(live) + 1) + ["NotPossible"])
        for call in (lambda: history_for(log), lambda: can_follow(log, log.servers[0], 10 ** 60),
                     lambda: next_numbers(log, log.servers[-1]), lambda: sure_numbers(log)):
            self.assertEqual(self.raises(NotPossible, call).obstacle, found)


if __name__ == "__main__":
    unittest.main()
