"""Programs at the bounds of point [4]: six threads of sixteen instructions over six variables."""

import random
import unittest

from ringfences.facts import facts, is_torn, shows_torn_ring, torn_ring
from ringfences.pairs import is_faithful, least_room, live_pairs, loose_pairs, ring_for, shows_ring
from ringfences.programs import is_program
from ringfences.runs import completed, is_complete, is_run
from ringfences.stories import is_story, plain_order, shows_plain, shows_story_ring, story_of, story_ring
from ringfences.tearing import fewest_steps, shows_tearing, tearing_run
from tests.helper import GREATEST, NAMES, Model, is_ring, is_ring_for, loose_by_search, model_facts, steps_by_search

BUFFERS = (("line", 1), ("line", 16), ("lanes", 1), ("lanes", 16))
FENCE = ("fence",)


def mixed(seed, words):
    """A program at the bounds of words in any order."""
    source = random.Random(seed)
    rows = []
    for _ in range(6):
        row = [(source.choice(words), source.choice(NAMES)) for _ in range(16)]
        rows.append(tuple(one[:1] if one[0] == "fence" else one for one in row))
    return tuple(rows)


def chain(walls):
    """Threads that store to a variable and load from the next one, with walls ahead, and in between but in one."""
    rows = []
    for thread in range(6):
        between = (FENCE,) if thread else (("load", NAMES[0]),)
        rows.append(walls + (("store", NAMES[thread]),) + between + (("load", NAMES[(thread + 1) % 6]),))
    return tuple(rows)


DENSE = mixed(1, ("store", "load"))
ALL = mixed(2, ("store", "store", "load", "load", "load", "swap", "fence"))
SWAPS = tuple(tuple(("swap", NAMES[(at + thread) % 6]) for at in range(16)) for thread in range(6))
FENCES = ((FENCE,) * 16,) * 6
LOADS = tuple(tuple(("load", NAMES[(at + thread) % 6]) for at in range(16)) for thread in range(6))
ONE = ((("store", "a"),) * 16,) * 6
PROGRAMS = (GREATEST, DENSE, ALL, SWAPS, FENCES, LOADS, ONE)


class Runs(unittest.TestCase):
    def some_run(self, program, buffers, seed):
        """A complete run whose steps are chosen among the possible ones."""
        source, model, run = random.Random(seed), Model(program, buffers), []
        steps = [("do", thread) for thread in range(6) for _ in range(3)]
        steps += [("flush", thread, name) for thread in range(6) for name in NAMES]
        while not model.is_complete():
            step = source.choice(steps)
            if model.make(step) is None:
                run.append(step)
        return tuple(run), model

    def test_stories_and_facts(self):
        torn = 0
        for program in PROGRAMS:
            self.assertIs(True, is_program(program))
            for number, buffers in enumerate(BUFFERS):
                run, model = self.some_run(program, buffers, number)
                self.assertIs(True, is_run(program, buffers, run) and is_complete(program, buffers, run))
                story = story_of(program, buffers, run)
                self.assertEqual(model.story(), story)
                self.assertIs(True, is_story(program, story))
                pairs = facts(program, buffers, run)
                self.assertEqual(tuple(sorted(model_facts(model))), pairs)
                order, ring = plain_order(program, story), story_ring(program, story)
                self.assertIs(order is None, ring is not None)
                self.assertIs(order is None, is_torn(program, buffers, run))
                if order is None:
                    torn += 1
                    self.assertIs(True, shows_story_ring(program, story, ring))
                    self.assertTrue(is_ring(set(pairs), ring))
                    self.assertIs(True, shows_torn_ring(program, buffers, run, torn_ring(program, buffers, run)))
                else:
                    self.assertEqual(96, len(order))
                    self.assertIs(True, shows_plain(program, story, order))
        self.assertGreater(torn, 4)

    def test_runs_of_one_thread_after_the_other(self):
        for program in PROGRAMS:
            for buffers in BUFFERS:
                run = completed(program, buffers, ())
                self.assertIs(False, is_torn(program, buffers, run))
                self.assertIs(False, shows_tearing(program, buffers, run))
                self.assertIsNotNone(plain_order(program, story_of(program, buffers, run)))

    def test_full_queues(self):
        run = tuple(("do", thread) for thread in range(6) for _ in range(16))
        wanted = tuple(((thread, at), (thread, later)) for thread in range(6) for at in range(16)
                       for later in range(at + 1, 16))
        for program in (GREATEST, ONE):
            for buffers in (("line", 16), ("lanes", 16)):
                self.assertEqual(wanted, facts(program, buffers, run))


class Pairs(unittest.TestCase):
    def test_pairs_and_rings(self):
        for program in PROGRAMS:
            for buffers in BUFFERS:
                loose, live = loose_pairs(program, buffers), live_pairs(program, buffers)
                self.assertEqual(sorted(set(loose)), list(loose))
                self.assertEqual([pair for pair in loose if pair in live], list(live))
                self.assertIs(not live, is_faithful(program, buffers))
                for pair in live[::25]:
                    ring = ring_for(program, buffers, pair)
                    self.assertTrue(is_ring_for(program, pair, ring))
                    self.assertIs(True, shows_ring(program, pair, ring))

    def test_loose_pairs_of_lines(self):
        for program in (DENSE, ALL, ONE):
            for room in (1, 16):
                self.assertEqual(loose_by_search(program, ("line", room)), loose_pairs(program, ("line", room)))

    def test_numbers(self):
        for room in (1, 16):
            self.assertEqual((), loose_pairs(GREATEST, ("line", room)))
            for program in (SWAPS, FENCES, LOADS, ONE):
                for word in ("line", "lanes"):
                    self.assertEqual((), loose_pairs(program, (word, room)))
                    self.assertIsNone(least_room(program, word))
        # With room 1 a store comes behind those up to the next one to its variable, which are five at most.
        self.assertEqual(6 * (11 * 5 + 4 + 3 + 2 + 1), len(loose_pairs(GREATEST, ("lanes", 1))))
        # With room 16 all pairs are loose but those to one variable: four variables have three stores, two have two.
        self.assertEqual(6 * (16 * 15 // 2 - 4 * 3 - 2), len(loose_pairs(GREATEST, ("lanes", 16))))
        self.assertEqual(loose_pairs(GREATEST, ("lanes", 1)), live_pairs(GREATEST, ("lanes", 1)))
        self.assertEqual(1, least_room(GREATEST, "lanes"))
        self.assertIsNone(least_room(GREATEST, "line"))

    def test_a_chain_of_six(self):
        program = chain((FENCE,) * 13)
        self.assertIs(True, is_program(program))
        ring = tuple((thread, 13, 15) for thread in range(1, 6))
        for buffers in BUFFERS:
            self.assertEqual(((0, 13, 15),), live_pairs(program, buffers))
            self.assertEqual(ring, ring_for(program, buffers, (0, 13, 15)))
            self.assertIs(True, shows_ring(program, (0, 13, 15), ring))
        self.assertEqual(1, least_room(program, "line"))
        self.assertEqual(1, least_room(program, "lanes"))

    def test_late_stores_of_long_threads(self):
        rows = (("store", "a"),) + (("store", "b"),) * 14 + (("load", "c"),)
        program = (rows, (("store", "c"), FENCE, ("load", "a"))) + ((FENCE,) * 16,) * 4
        self.assertEqual(15, least_room(program, "line"))
        self.assertEqual(1, least_room(program, "lanes"))
        # Sixteen instructions and no flush, or a flush of all but one of the stores to b; and four steps of thread 1.
        self.assertIsNone(fewest_steps(program, ("line", 14)))
        self.assertEqual(20, fewest_steps(program, ("line", 15)))
        self.assertEqual(20, fewest_steps(program, ("lanes", 16)))
        self.assertEqual(20 + 13, fewest_steps(program, ("lanes", 1)))


class Tearing(unittest.TestCase):
    def check(self, program, buffers, wanted):
        run = tearing_run(program, buffers)
        self.assertEqual(wanted, fewest_steps(program, buffers))
        self.assertEqual(wanted, len(run))
        self.assertIs(True, shows_tearing(program, buffers, run))
        self.assertIs(False, is_torn(program, buffers, run[:-1]))

    def test_a_chain_of_six(self):
        for buffers in BUFFERS:
            # All instructions, and the flushes ahead of the fences in five threads.
            self.check(chain((FENCE,) * 13), buffers, 96 + 5)
            self.check(chain((("swap", "a"),) * 13), buffers, 96 + 5)
            # Each store ahead is flushed, too, since a fence follows.
            self.check(chain((("store", "a"), FENCE) * 6 + (FENCE,)), buffers, 96 + 5 + 6 * 6)

    def test_rings_of_long_threads(self):
        for buffers in BUFFERS:
            for program in (DENSE, ALL):
                wanted = fewest_by_two(program, buffers)
                found = fewest_steps(program, buffers)
                self.assertLessEqual(found, wanted)
                self.check(program, buffers, found)

    def test_faithful_ones(self):
        for buffers in BUFFERS:
            for program in (SWAPS, FENCES, LOADS, ONE):
                self.assertIsNone(fewest_steps(program, buffers))
                self.assertIsNone(tearing_run(program, buffers))
        for room in (1, 16):
            self.assertIsNone(fewest_steps(GREATEST, ("line", room)))

    def test_lanes_of_stores(self):
        # Two threads that store to a and b; one flushes b ahead of a, as the other one's a comes ahead of its b.
        self.check(GREATEST, ("lanes", 1), 2 + 1 + 7 + 2)
        self.check(GREATEST, ("lanes", 16), 2 + 1 + 7 + 2)

    def test_full_queues_of_long_threads(self):
        rows = (("store", "a"),) * 14 + (("store", "b"), ("load", "c"))
        program = (rows, (("swap", "c"), ("load", "b"))) + ((FENCE,) * 16,) * 4
        for word in ("line", "lanes"):
            for room in (1, 2, 8, 14, 15, 16):
                kept = room - 1 if word == "line" else room
                self.check(program, (word, room), 18 + max(0, 14 - kept))


def fewest_by_two(program, buffers):
    """The fewest steps over the rings of two threads, with a search for each of them."""
    best = 192
    for pair in live_pairs(program, buffers):
        rows = program[pair[0]]
        if pair[2] + 1 >= best:
            continue
        own = steps_by_search(rows, buffers, pair[1], pair[2], pair[1])
        for thread, other in enumerate(program):
            for last in range(16):
                for first in range(last + 1):
                    if own + last + 1 < best and is_ring_for(program, pair, ((thread, first, last),)):
                        best = min(best, own + steps_by_search(other, buffers, first, last))
    return best
