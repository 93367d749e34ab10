"""The error classes (point 5)."""

import inspect
import unittest

from numberbooks import errors

PLAIN = ("InvalidSize", "InvalidServers", "InvalidEntries", "InvalidEvents", "InvalidServer", "InvalidBlock",
         "InvalidNumber", "InvalidOwners", "InvalidLog", "TooLarge", "NothingToUndo")
KEEPING = (("NotPossible", "obstacle"), ("InvalidText", "word"))


class Errors(unittest.TestCase):
    def test_book_error_is_a_direct_subclass_of_value_error(self):
        self.assertEqual(errors.BookError.__bases__, (ValueError,))

    def test_thirteen_direct_subclasses(self):
        names = PLAIN + tuple(name for name, _ in KEEPING)
        self.assertEqual(len(set(names)), 13)
        for name in names:
            found = getattr(errors, name)
            self.assertEqual(found.__bases__, (errors.BookError,), name)
            self.assertEqual(found.__module__, "numberbooks.errors", name)

    def test_there_are_no_others(self):
        found = [name for name, thing in vars(errors).items() if inspect.isclass(thing)]
        self.assertEqual(sorted(found), sorted(PLAIN + ("BookError", "NotPossible", "InvalidText")))

    def test_none_catches_another_one(self):
        for name in PLAIN:
            for other in PLAIN:
                self.assertEqual(issubclass(getattr(errors, name), getattr(errors, other)), name == other)

    def test_the_eleven_are_made_with_one_string(self):
        for name in PLAIN:
            with self.assertRaises(errors.BookError) as caught:
                raise getattr(errors, name)("some words")
            self.assertEqual(str(caught.exception), "some words")
            self.assertIsInstance(caught.exception, ValueError)

    def test_the_others_keep_their_argument(self):
        for name, field in KEEPING:
            for thing in (("pushed", [(1, 2), (2, 4)]), ("twice", 0, 1), 0, 7, None):
                for made in (getattr(errors, name)(thing), getattr(errors, name)(**{field: thing})):
                    self.assertIs(getattr(made, field), thing)
                    with self.assertRaises(getattr(errors, name)):
                        raise made

    def test_the_others_need_their_argument(self):
        for name, _ in KEEPING:
            with self.assertRaises(TypeError):
                getattr(errors, name)()


if __name__ == "__main__":
    unittest.main()
