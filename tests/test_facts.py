"""Facts of runs, complete or not, and runs that are torn."""

import itertools
import unittest

from ringfences.facts import facts, is_torn, shows_torn_ring, torn_ring
from ringfences.runs import completed
from ringfences.stories import plain_order, story_of, story_ring
from tests.helper import BUFFERS, EMPTY, LANES, LINE, MESSAGE, SMALL, THREE, TWO
from tests.helper import has_ring, is_all_tuples, is_ring, listed, model_facts, random_programs, situations
from tests.helper import values, varied

TORN = (("do", 0), ("do", 0), ("do", 1), ("do", 1))
RING = ((0, 0), (0, 1), (1, 0), (1, 1))


def do(*threads):
    return tuple(("do", thread) for thread in threads)


def flush(thread, variable):
    return (("flush", thread, variable),)


class Facts(unittest.TestCase):
    def check(self, program, run, *wanted):
        for buffers in BUFFERS:
            self.assertEqual(wanted, facts(program, buffers, run))

    def test_the_empty_run(self):
        for program in SMALL:
            self.check(program, ())

    def test_one_thread(self):
        program = ((("load", "x"), ("fence",), ("load", "y"), ("load", "x")),)
        self.check(program, do(0))
        self.check(program, do(0, 0))
        self.check(program, do(0, 0, 0), ((0, 0), (0, 2)))
        self.check(program, do(0, 0, 0, 0), ((0, 0), (0, 2)), ((0, 0), (0, 3)), ((0, 2), (0, 3)))

    def test_what_was_read(self):
        program = ((("store", "x"),), (("load", "x"),))
        self.check(program, do(0) + flush(0, "x") + do(1), ((0, 0), (1, 0)))
        # The load came ahead of the store, whether the store still waits or not.
        self.check(program, do(0, 1), ((1, 0), (0, 0)))
        self.check(program, do(0, 1) + flush(0, "x"), ((1, 0), (0, 0)))
        self.check(program, do(1, 0), ((1, 0), (0, 0)))
        self.check(program, do(1))

    def test_memory_and_what_comes_later(self):
        program = ((("store", "x"),), (("store", "x"),), (("store", "y"),))
        self.check(program, do(0, 1, 2))
        self.check(program, do(0, 2, 1) + flush(0, "x"), ((0, 0), (1, 0)))
        self.check(program, do(0, 2, 1) + flush(1, "x"), ((1, 0), (0, 0)))
        self.check(program, do(0, 2, 1) + flush(1, "x") + flush(2, "y") + flush(0, "x"), ((1, 0), (0, 0)))
        # A store that was not done is not settled.
        self.check(program, do(0) + flush(0, "x"))

    def test_one_that_was_not_read(self):
        program = ((("load", "x"),), (("store", "x"),), (("store", "x"),))
        self.check(program, do(0, 1), ((0, 0), (1, 0)))
        self.check(program, do(1, 0, 2), ((0, 0), (1, 0)), ((0, 0), (2, 0)))
        run = do(1) + flush(1, "x") + do(0)
        self.check(program, run, ((1, 0), (0, 0)))
        self.check(program, run + do(2), ((0, 0), (2, 0)), ((1, 0), (0, 0)), ((1, 0), (2, 0)))
        run = do(1, 2) + flush(1, "x") + flush(2, "x") + do(0)
        self.check(program, run, ((1, 0), (2, 0)), ((2, 0), (0, 0)))

    def test_ones_own_waiting_store(self):
        program = ((("store", "x"), ("load", "x")), (("store", "x"),))
        own = ((0, 0), (0, 1))
        self.check(program, do(0, 0, 1), own)
        # The load comes ahead of the other store only when what it read is in memory.
        self.check(program, do(0, 0, 1) + flush(0, "x"), own, ((0, 0), (1, 0)), ((0, 1), (1, 0)))
        self.check(program, do(0, 0, 1) + flush(1, "x"), own, ((1, 0), (0, 0)))
        self.check(program, do(0, 0, 1) + flush(1, "x") + flush(0, "x"), own, ((1, 0), (0, 0)))
        self.check(program, do(0, 0) + flush(0, "x"), own)

    def test_two_own_waiting_stores(self):
        program = ((("store", "x"), ("store", "x"), ("load", "x")), (("load", "x"), ("store", "x")))
        run = do(0, 0, 0, 1, 1)
        row = (((0, 0), (0, 1)), ((0, 0), (0, 2)), ((0, 1), (0, 2)))
        missed = (((1, 0), (0, 0)), ((1, 0), (0, 1)), ((1, 0), (1, 1)))
        for buffers in (("line", 2), LINE, ("lanes", 2), LANES):
            self.assertEqual(row + missed, facts(program, buffers, run))
            run_on = run + flush(0, "x")
            wanted = sorted(row + missed + (((0, 0), (1, 1)),))
            self.assertEqual(tuple(wanted), facts(program, buffers, run_on))
            run_on = run_on + flush(1, "x")
            wanted = sorted(row + missed + (((0, 0), (1, 1)), ((1, 1), (0, 1))))
            self.assertEqual(tuple(wanted), facts(program, buffers, run_on))

    def test_swaps(self):
        program = ((("swap", "x"),), (("swap", "x"),), (("store", "x"),))
        self.check(program, do(0))
        self.check(program, do(2, 0), ((0, 0), (2, 0)))
        self.check(program, do(0, 1), ((0, 0), (1, 0)))
        self.check(program, do(2, 1, 0), ((0, 0), (2, 0)), ((1, 0), (0, 0)), ((1, 0), (2, 0)))
        run = do(2) + flush(2, "x") + do(0)
        self.check(program, run, ((2, 0), (0, 0)))

    def test_other_variables_are_no_matter(self):
        program = ((("load", "x"),), (("store", "y"),), (("swap", "z"),))
        self.check(program, do(0, 1, 2))
        self.check(program, do(1) + flush(1, "y") + do(2, 0))

    def test_lanes(self):
        run = do(0, 0) + flush(0, "y") + do(1, 1)
        wanted = (((0, 0), (0, 1)), ((0, 1), (1, 0)), ((1, 0), (1, 1)), ((1, 1), (0, 0)))
        for room in (1, 2, 4, 16):
            self.assertEqual(wanted, facts(MESSAGE, ("lanes", room), run))

    def test_nothing_to_relate(self):
        for program in (((),), EMPTY, ((),) * 6):
            self.check(program, ())
        self.check(((("fence",), ("fence",)), (("fence",),)), do(0, 1, 0))


class AsTheModel(unittest.TestCase):
    """All situations of small programs, against a second way to find the facts."""

    def check(self, program, buffers):
        torn = {}
        for run, model in situations(program, buffers, 600):
            wanted = model_facts(model)
            found = facts(program, buffers, run)
            self.assertEqual(tuple(sorted(wanted)), found)
            self.assertTrue(is_all_tuples(found))
            torn[run] = has_ring(wanted)
            self.assertIs(torn[run], is_torn(program, buffers, run))
            ring = torn_ring(program, buffers, run)
            self.assertIs(torn[run], ring is not None)
            if torn[run]:
                self.assertTrue(is_ring(wanted, ring))
                self.assertTrue(is_all_tuples(ring))
                self.assertIs(True, shows_torn_ring(program, buffers, run, ring))
        return sum(torn.values())

    def test_small_programs(self):
        self.assertGreater(sum(self.check(program, buffers) for program in SMALL for buffers in BUFFERS), 100)

    def test_random_programs(self):
        for program in random_programs(25, 2):
            for buffers in (("line", 1), LINE, ("lanes", 1), LANES):
                self.check(program, buffers)


class WhateverFollows(unittest.TestCase):
    def test_facts_stay_facts(self):
        for program in SMALL + tuple(random_programs(15, 3)):
            for buffers in (("line", 1), LINE, LANES):
                for run, _ in situations(program, buffers, 150):
                    whole = set(facts(program, buffers, run))
                    if run:
                        self.assertLessEqual(set(facts(program, buffers, run[:-1])), whole)
                    self.assertLessEqual(whole, set(facts(program, buffers, completed(program, buffers, run))))

    def test_each_beginning(self):
        for program in SMALL:
            for buffers in BUFFERS:
                run = completed(program, buffers, ())
                for many in range(len(run)):
                    ahead = set(facts(program, buffers, run[:many]))
                    self.assertLessEqual(ahead, set(facts(program, buffers, run[:many + 1])))

    def test_no_plain_story_behind_a_torn_run(self):
        many = 0
        for program in SMALL + tuple(random_programs(40, 4)):
            for buffers in (("line", 1), LINE, LANES):
                for run, _ in situations(program, buffers, 300):
                    whole = completed(program, buffers, run)
                    story = story_of(program, buffers, whole)
                    self.assertIs(is_torn(program, buffers, whole), plain_order(program, story) is None)
                    self.assertIs(is_torn(program, buffers, whole), story_ring(program, story) is not None)
                    if is_torn(program, buffers, run):
                        self.assertIsNone(plain_order(program, story))
                        many += 1
        self.assertGreater(many, 100)


class Torn(unittest.TestCase):
    def test_by_the_last_step(self):
        runs = (
            (TWO, LINE, TORN),
            (TWO, LANES, TORN),
            (THREE, LINE, do(0, 0, 1) + flush(1, "y") + do(2, 2)),
            (MESSAGE, LANES, do(0, 0) + flush(0, "y") + do(1, 1)),
            # The last step can be a flush.
            (((("store", "x"), ("load", "y")), (("store", "y"), ("store", "x"))), LINE,
             do(0, 0, 1, 1) + flush(1, "y") + flush(1, "x")),
        )
        for program, buffers, run in runs:
            for many in range(len(run)):
                self.assertIs(False, is_torn(program, buffers, run[:many]), run[:many])
                self.assertIsNone(torn_ring(program, buffers, run[:many]))
            self.assertIs(True, is_torn(program, buffers, run))
            whole = completed(program, buffers, run)
            for many in range(len(run), len(whole) + 1):
                self.assertIs(True, is_torn(program, buffers, whole[:many]))

    def test_never(self):
        for run, _ in situations(MESSAGE, LINE):
            self.assertIs(False, is_torn(MESSAGE, LINE, run))
        plain = do(0) + flush(0, "x") + do(0, 1) + flush(1, "y") + do(1)
        for many in range(len(plain) + 1):
            self.assertIs(False, is_torn(TWO, LINE, plain[:many]))
            self.assertIsNone(torn_ring(TWO, LINE, plain[:many]))

    def test_a_load_of_ones_own_store(self):
        program = ((("store", "x"), ("load", "x"), ("load", "y")), (("store", "y"), ("load", "y"), ("load", "x")))
        for buffers in BUFFERS:
            self.assertIs(False, is_torn(program, buffers, do(0, 0, 0, 1, 1)))
            self.assertIs(True, is_torn(program, buffers, do(0, 0, 0, 1, 1, 1)))


class ShowsTornRing(unittest.TestCase):
    def test_all_tuples_of_places(self):
        places = [(thread, at) for thread in range(3) for at in range(2)]
        for program in (TWO, MESSAGE):
            for buffers in (LINE, LANES):
                for run, model in situations(program, buffers):
                    pairs = model_facts(model)
                    for many in (1, 2, 3, 4) if has_ring(pairs) else (1, 2):
                        for value in itertools.permutations(places, many):
                            wanted = is_ring(pairs, value)
                            self.assertIs(wanted, shows_torn_ring(program, buffers, run, value), value)

    def test_turned_and_cut(self):
        for at in range(4):
            turned = RING[at:] + RING[:at]
            self.assertIs(True, shows_torn_ring(TWO, LINE, TORN, turned))
            self.assertIs(False, shows_torn_ring(TWO, LINE, TORN[:3], turned))
            self.assertIs(False, shows_torn_ring(TWO, LINE, TORN, turned[::-1]))
            self.assertIs(False, shows_torn_ring(TWO, LINE, TORN, turned[1:]))
            self.assertIs(False, shows_torn_ring(TWO, LINE, TORN, turned[:1] + turned))
            self.assertIs(False, shows_torn_ring(TWO, LINE, TORN, turned[1:2] + turned[:1] + turned[2:]))
            self.assertIs(False, shows_torn_ring(TWO, LINE, TORN, turned[:1]))
            self.assertIs(False, shows_torn_ring(TWO, LINE, TORN, turned + turned))
        self.assertIs(False, shows_torn_ring(TWO, LINE, TORN, ()))
        self.assertIs(False, shows_torn_ring(TWO, LINE, (), ()))

    def test_numbers_that_are_not_there(self):
        for wrong in ((2, 0), (0, 2), (-1, 0), (0, -1), (-2, 0), (False, 0), (0, False), (0, 0, 0), (0,), ()):
            for at in range(4):
                value = RING[:at] + (wrong,) + RING[at + 1:]
                self.assertIs(False, shows_torn_ring(TWO, LINE, TORN, value), value)
                self.assertIs(False, shows_torn_ring(TWO, LINE, TORN, RING[:at] + (wrong,) + RING[at:]))

    def test_lists_and_near_values(self):
        for value in listed(RING):
            self.assertIs(False, shows_torn_ring(TWO, LINE, TORN, value), value)
        for value in varied(RING):
            self.assertIs(repr(value) == repr(RING), shows_torn_ring(TWO, LINE, TORN, value), value)

    def test_any_value(self):
        for value in values():
            before = repr(value)
            self.assertIs(False, shows_torn_ring(TWO, LINE, TORN, value), value)
            self.assertIs(before == "(0, 0)", shows_torn_ring(TWO, LINE, TORN, (value,) + RING[1:]), value)
            self.assertIs(False, shows_torn_ring(TWO, LINE, TORN, RING + (value,)), value)
            self.assertIs(False, shows_torn_ring(TWO, LINE, (), value), value)
            self.assertIs(False, shows_torn_ring(EMPTY, LINE, (), value), value)
            self.assertEqual(before, repr(value))
