"""Tests that go over all logs with a few numbers, steady and losing."""

import unittest

from numberbooks.logs import Log, LosingLog
from tests.tried import all_logs

KINDS = ((Log, False), (LosingLog, True))


class AllLogs(unittest.TestCase):
    """Its subclasses have check_log, which returns how many possible logs it saw: 1 or 0."""

    def check_all(self, size, servers, numbers, most):
        for make, losing in KINDS:
            possible = sum([self.check_log(make, losing, size, servers, entries)
                            for entries in all_logs(servers, numbers, most)])
            self.assertGreater(possible, 1)
