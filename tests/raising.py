"""Tests that ask for errors of exactly one class."""

import unittest


class Raising(unittest.TestCase):
    def raises(self, kind, call, *given, **named):
        with self.assertRaises(kind) as caught:
            call(*given, **named)
        self.assertIs(caught.exception.__class__, kind)
        return caught.exception
