"""The errors: their classes, and what they keep."""

import copy
import unittest

import ringfences.errors
from ringfences.errors import FenceError
from tests.helper import values

KEPT = {
    "BadStep": "step", "NoThread": "thread", "Finished": "thread", "Blocked": "thread", "Full": "thread",
    "NothingWaits": "variable", "NotOldest": "variable", "Incomplete": None, "NotLive": "pair",
    "TooLong": "limit", "Unfaithful": None, "TooMany": "limit", "BadProgram": "value", "BadBuffers": "value",
    "BadRemedies": "value", "NotThere": "remedy", "NothingToUndo": None, "NoNumber": "number",
    "NoMachine": None, "BadText": "row", "BadLine": "line",
}


def errors():
    return [(getattr(ringfences.errors, name), kept) for name, kept in KEPT.items()]


class Errors(unittest.TestCase):
    def test_there_are_twenty_one(self):
        found = [
            name for name, thing in vars(ringfences.errors).items()
            if isinstance(thing, type) and thing is not FenceError
        ]
        self.assertEqual(21, len(KEPT))
        self.assertEqual(sorted(KEPT), sorted(found))

    def test_bases(self):
        self.assertEqual((ValueError,), FenceError.__bases__)
        for error, _ in errors():
            self.assertEqual((FenceError,), error.__bases__, error)

    def test_defined_in_the_file(self):
        for error, _ in errors():
            self.assertEqual("ringfences.errors", error.__module__)

    def test_keeps_what_it_was_made_with_by_position(self):
        for error, kept in errors():
            for value in values() if kept else ():
                made = error(value)
                self.assertIs(value, getattr(made, kept))
                self.assertEqual({kept: value}, vars(made))

    def test_keeps_what_it_was_made_with_by_name(self):
        for error, kept in errors():
            for value in values() if kept else ():
                made = error(**{kept: value})
                self.assertIs(value, getattr(made, kept))
                self.assertEqual({kept: value}, vars(made))

    def test_changes_no_value(self):
        for error, kept in errors():
            for value in values() if kept else ():
                before = copy.deepcopy(value)
                error(value)
                self.assertEqual(repr(before), repr(value))

    def test_made_without_values(self):
        for error, kept in errors():
            if kept is None:
                self.assertEqual({}, vars(error()))
            else:
                self.assertRaises(TypeError, error)

    def test_raised_and_caught(self):
        for error, kept in errors():
            made = error(("do", 0)) if kept else error()
            for base in (error, FenceError, ValueError):
                with self.assertRaises(base) as held:
                    raise made
                self.assertIs(made, held.exception)

    def test_none_catches_another(self):
        for error, _ in errors():
            for other, kept in errors():
                made = other(1) if kept else other()
                self.assertEqual(error is other, isinstance(made, error))
