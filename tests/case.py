"""What all tests use: strict comparisons, and checks that no argument is changed."""

import unittest
from itertools import islice

from halflink.errors import Crossed, InvalidNumber, InvalidPath, InvalidRun, NothingToUndo, TooMany, UnknownName

KEPT = {
    UnknownName: "name",
    InvalidNumber: "value",
    InvalidRun: "at",
    InvalidPath: "at",
    TooMany: "limit",
    Crossed: "run",
    NothingToUndo: "many",
}


class Case(unittest.TestCase):
    """A test case with strict comparisons: True is not 1 here, and a list is not a tuple."""

    def same(self, got, wanted, told=None):
        self.assertEqual(repr(got), repr(wanted), told)

    def unchanged(self, function, arguments, keywords):
        """Call the function and look whether its arguments stay as they were; generators become lists."""
        before = repr((arguments, keywords))
        try:
            result = function(*arguments, **keywords)
            return list(result) if hasattr(result, "__next__") else result
        finally:
            self.assertEqual(before, repr((arguments, keywords)), "an argument was changed")

    def gives(self, wanted, function, *arguments, **keywords):
        """Check a result, twice, as equal calls return equal results."""
        for _ in range(2):
            self.same(self.unchanged(function, arguments, keywords), wanted, (function, arguments, keywords))

    def fails(self, error, function, *arguments, **keywords):
        """Check that a call raises an error, which is given as a class, or as one with the value that it keeps."""
        wanted, *kept = error if isinstance(error, tuple) else (error,)
        before = repr((arguments, keywords))
        told = f"{function} {arguments!r:.300} {keywords!r:.300}"
        with self.assertRaises(wanted, msg=told) as caught:
            result = function(*arguments, **keywords)
            if hasattr(result, "__next__"):
                list(islice(result, 1))
        self.assertIs(type(caught.exception), wanted, told)
        for value in kept:
            self.same(getattr(caught.exception, KEPT[wanted]), value, told)
        self.assertEqual(before, repr((arguments, keywords)), "an argument was changed")
