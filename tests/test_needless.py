"""Needless fences, and programs that are thinned."""

import random
import unittest

from ringfences.errors import Unfaithful
from ringfences.needless import needless_fences, thinned
from ringfences.pairs import is_faithful, live_pairs
from ringfences.programs import is_program
from ringfences.remedies import applied, fewest
from tests.helper import BUFFERS, EMPTY, FULL, GREATEST, LANES, LINE, MESSAGE, OWN, SMALL, THREE, TWO
from tests.helper import dense_programs, is_all_tuples

FENCE = ("fence",)
TWICE = (
    (("store", "x"), FENCE, FENCE, ("load", "y")),
    (("store", "y"), FENCE, ("load", "x"), FENCE),
)
SOME = (("line", 1), ("line", 2), LINE, ("lanes", 1), ("lanes", 2), LANES)


def fences_in(program):
    """The places of all fences, ascending."""
    return [(thread, at) for thread, rows in enumerate(program) for at, row in enumerate(rows) if row == FENCE]


def without(program, place):
    """A program without the instruction at a place."""
    thread, at = place
    rows = program[thread]
    return program[:thread] + (rows[:at] + rows[at + 1:],) + program[thread + 1:]


def thinned_by_words(program, buffers):
    """What is left when each fence is tried, the last one first, as point [13] words it."""
    for place in fences_in(program)[::-1]:
        if is_faithful(without(program, place), buffers):
            program = without(program, place)
    return program


def fenced_programs(many, seed):
    """Faithful programs with buffers, with fences that are needed and others, the same ones at each call."""
    source, found = random.Random(seed), []
    for program in SMALL + tuple(dense_programs(many, seed)):
        for buffers in SOME:
            cure = fewest(program, buffers, "fence")
            fenced = applied(program, cure)
            for _ in range(source.randint(0, 4)):
                thread = source.randrange(len(fenced))
                if len(fenced[thread]) < 16:
                    fenced = applied(fenced, (("fence", thread, source.randint(0, len(fenced[thread]))),))
            found.append((fenced, buffers))
    return found


class Needless(unittest.TestCase):
    def check(self, program, buffers, *wanted):
        self.assertEqual(wanted, needless_fences(program, buffers), (program, buffers))

    def test_needed_and_not(self):
        for buffers in BUFFERS:
            self.check(((("store", "x"), FENCE, ("load", "y")), (("store", "y"), FENCE, ("load", "x"))), buffers)
            # Without the other thread's load none is needed.
            self.check(((("store", "x"), FENCE, ("load", "y")), (("store", "y"), FENCE)), buffers, (0, 1), (1, 1))
            self.check((TWO[0][:1] + (FENCE,) + TWO[0][1:], (("swap", "y"), FENCE, ("load", "x"))), buffers, (1, 1))

    def test_needed_only_together(self):
        for buffers in BUFFERS:
            self.check(TWICE, buffers, (0, 1), (0, 2), (1, 3))
            rows = (("store", "x"), FENCE, ("load", "z"), FENCE, ("load", "y"))
            self.check((rows, TWICE[1]), buffers, (0, 1), (0, 3), (1, 3))

    def test_at_the_beginning_and_the_end(self):
        for buffers in BUFFERS:
            rows = (FENCE, ("store", "x"), FENCE, ("load", "y"), FENCE)
            self.check((rows, (FENCE, FENCE) + TWICE[1]), buffers, (0, 0), (0, 4), (1, 0), (1, 1), (1, 5))

    def test_what_lines_keep_apart(self):
        program = ((("store", "x"), FENCE, ("store", "y")), (("load", "y"), FENCE, ("load", "x")))
        for buffers in BUFFERS:
            if buffers[0] == "line":
                self.check(program, buffers, (0, 1), (1, 1))
            else:
                self.check(program, buffers, (1, 1))

    def test_no_fences(self):
        for buffers in BUFFERS:
            self.check(EMPTY, buffers)
            self.check(TWO[:1], buffers)
        self.check(MESSAGE, LINE)

    def test_no_accesses(self):
        for buffers in BUFFERS:
            self.check(((FENCE,) * 16,) * 6, buffers, *[(thread, at) for thread in range(6) for at in range(16)])

    def test_each_one_removed(self):
        many = {True: 0, False: 0}
        for program, buffers in fenced_programs(60, 50):
            self.assertIs(True, is_faithful(program, buffers))
            found = needless_fences(program, buffers)
            self.assertTrue(is_all_tuples(found))
            wanted = [place for place in fences_in(program) if is_faithful(without(program, place), buffers)]
            self.assertEqual(tuple(wanted), found, (program, buffers))
            many[True] += len(found)
            many[False] += len(fences_in(program)) - len(found)
        self.assertGreater(min(many.values()), 200)


class Thinned(unittest.TestCase):
    def test_from_the_last_one_to_the_first(self):
        for buffers in BUFFERS:
            left = ((("store", "x"), FENCE, ("load", "y")), (("store", "y"), FENCE, ("load", "x")))
            self.assertEqual(left, thinned(TWICE, buffers))
            # Of two that stand apart the first one is left.
            rows = (("store", "x"), FENCE, ("load", "z"), FENCE, ("load", "y"))
            self.assertEqual((rows[:3] + rows[4:], left[1]), thinned((rows, TWICE[1]), buffers))

    def test_three_that_serve_two(self):
        # Without the middle one both others are needed; it stays as the last one goes first.
        program = (
            (("store", "x"), FENCE, ("load", "a"), FENCE, ("store", "z"), ("load", "y"), FENCE, ("load", "b")),
            (("store", "y"), FENCE, ("load", "x")),
            (("store", "b"), FENCE, ("load", "z")),
        )
        for buffers in BUFFERS:
            self.assertEqual(thinned_by_words(program, buffers), thinned(program, buffers))

    def test_words(self):
        shorter = 0
        for program, buffers in fenced_programs(60, 51):
            found = thinned(program, buffers)
            self.assertEqual(thinned_by_words(program, buffers), found, (program, buffers))
            self.assertTrue(is_all_tuples(found))
            self.assertIs(True, is_program(found))
            self.assertIs(True, is_faithful(found, buffers))
            self.assertEqual((), needless_fences(found, buffers))
            self.assertEqual(found, thinned(found, buffers))
            shorter += found != program
        self.assertGreater(shorter, 100)

    def test_nothing_to_remove(self):
        for buffers in BUFFERS:
            self.assertEqual(EMPTY, thinned(EMPTY, buffers))
            program = ((("store", "x"), FENCE, ("load", "y")), (("store", "y"), FENCE, ("load", "x")))
            self.assertEqual(program, thinned(program, buffers))
        self.assertEqual(MESSAGE, thinned(MESSAGE, LINE))

    def test_all_of_them(self):
        for buffers in BUFFERS:
            self.assertEqual(((),) * 6, thinned(((FENCE,) * 16,) * 6, buffers))
            loads = ((FENCE, ("load", "x")) * 8,) * 6
            self.assertEqual(((("load", "x"),) * 8,) * 6, thinned(loads, buffers))


class NotFaithful(unittest.TestCase):
    def check(self, program, buffers):
        for function in (needless_fences, thinned):
            for _ in range(2):
                with self.assertRaises(Unfaithful) as held:
                    function(program, buffers)
                self.assertEqual({}, vars(held.exception))

    def test_live_pairs(self):
        for program in SMALL + (OWN, FULL) + tuple(dense_programs(30, 52)):
            for buffers in SOME:
                if live_pairs(program, buffers):
                    self.check(program, buffers)
                else:
                    self.assertEqual(thinned_by_words(program, buffers), thinned(program, buffers))

    def test_fences_that_do_not_help(self):
        rows = ((FENCE,) + TWO[0] + (FENCE,), (("store", "y"), FENCE, ("load", "x")))
        for buffers in BUFFERS:
            self.check(TWO, buffers)
            self.check(THREE, buffers)
            self.check(rows, buffers)
            # One pair more that is live than the fences cut.
            self.check((TWICE[0] + (("store", "z"), ("load", "y")), TWICE[1] + (("load", "z"),)), buffers)
            self.check(GREATEST, LANES)

    def test_with_one_word_only(self):
        program = ((("store", "x"), ("store", "y"), FENCE), (("load", "y"), FENCE, ("load", "x")))
        self.check(program, LANES)
        self.assertEqual(((0, 2), (1, 1)), needless_fences(program, LINE))
        self.assertEqual(MESSAGE, thinned(program, LINE))
