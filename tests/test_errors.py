"""[0.10] and [0.11]: the errors, what they are derived from, and what they keep."""

import unittest

from halflink import errors
from tests.case import KEPT

DERIVED = (
    "InvalidMachine", "InvalidNetwork", "InvalidConfiguration", "InvalidLogs", "InvalidView", "InvalidWord",
    "InvalidOperation", "ParseError", "InvalidCommand",
)

KEEPING = {
    "UnknownName": (KeyError, "name"),
    "InvalidNumber": (IndexError, "value"),
    "InvalidRun": (LookupError, "at"),
    "InvalidPath": (LookupError, "at"),
    "TooMany": (OverflowError, "limit"),
    "Crossed": (RuntimeError, "run"),
    "NothingToUndo": (ArithmeticError, "many"),
}


class Errors(unittest.TestCase):
    def test_link_error(self):
        self.assertEqual(errors.LinkError.__bases__, (ValueError,))
        self.assertEqual(str(errors.LinkError("what is wrong")), "what is wrong")

    def test_derived_directly_from_link_error(self):
        for name in DERIVED:
            error = getattr(errors, name)
            self.assertEqual(error.__bases__, (errors.LinkError,), name)
            self.assertEqual(error.__name__, name)
            self.assertEqual(str(error("what is wrong")), "what is wrong", name)

    def test_not_derived_from_one_another(self):
        found = [getattr(errors, name) for name in DERIVED]
        for one in found:
            self.assertEqual([other for other in found if issubclass(one, other)], [one])

    def test_keeping_one_value(self):
        for name, (base, attribute) in KEEPING.items():
            error = getattr(errors, name)
            self.assertEqual(error.__bases__, (base,), name)
            self.assertFalse(issubclass(error, errors.LinkError), name)
            for value in (0, "a", None, True, (), [1], {"a": 1}, (("a", 0),)):
                self.assertIs(getattr(error(value), attribute), value, name)
                self.assertIs(getattr(error(**{attribute: value}), attribute), value, name)

    def test_caught_as_what_they_are_derived_from(self):
        for name, (base, attribute) in KEEPING.items():
            with self.assertRaises(base) as caught:
                raise getattr(errors, name)(7)
            self.assertEqual(getattr(caught.exception, attribute), 7)
        for name in DERIVED:
            with self.assertRaises(errors.LinkError):
                raise getattr(errors, name)("told")

    def test_defined_here(self):
        for name in ("LinkError", *DERIVED, *KEEPING):
            self.assertEqual(getattr(errors, name).__module__, "halflink.errors")

    def test_tests_know_each_error_that_keeps_a_value(self):
        self.assertEqual({error.__name__: kept for error, kept in KEPT.items()},
                         {name: kept for name, (_, kept) in KEEPING.items()})


if __name__ == "__main__":
    unittest.main()
