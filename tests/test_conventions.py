"""What point [2] says of every function of points [7] to [10]: names, equal calls, arguments that stay."""

import copy
import inspect
import unittest

from ringfences import facts, pairs, stories, tearing
from ringfences.errors import Incomplete, NotLive
from tests.helper import LANES, LINE, MESSAGE, MIXED, THREE, TWO
from tests.helper import is_all_tuples

RUN = (("do", 0), ("do", 0), ("do", 1), ("do", 1), ("flush", 0, "x"), ("flush", 1, "y"))
STORY = ((((0, 1), None), ((1, 1), None)), (("x", ((0, 0),)), ("y", ((1, 0),))))
OTHER = ((((0, 1), (1, 0)), ((1, 1), None)), STORY[1])
RING = ((0, 0), (0, 1), (1, 0), (1, 1))
TWISTED = (["do", 0], {"a": [1, (2, {})]}, [])

CALLS = (
    (stories.story_of, {"program": TWO, "buffers": LINE, "run": RUN}),
    (stories.is_story, {"program": TWO, "value": STORY}),
    (stories.is_story, {"program": TWO, "value": TWISTED}),
    (stories.plain_order, {"program": TWO, "story": STORY}),
    (stories.plain_order, {"program": TWO, "story": OTHER}),
    (stories.shows_plain, {"program": TWO, "story": OTHER, "value": (1, 1, 0, 0)}),
    (stories.shows_plain, {"program": TWO, "story": OTHER, "value": TWISTED}),
    (stories.story_ring, {"program": TWO, "story": STORY}),
    (stories.shows_story_ring, {"program": TWO, "story": STORY, "value": RING}),
    (stories.shows_story_ring, {"program": TWO, "story": STORY, "value": TWISTED}),
    (facts.facts, {"program": TWO, "buffers": LINE, "run": RUN}),
    (facts.is_torn, {"program": TWO, "buffers": LINE, "run": RUN}),
    (facts.torn_ring, {"program": TWO, "buffers": LINE, "run": RUN}),
    (facts.shows_torn_ring, {"program": TWO, "buffers": LINE, "run": RUN, "value": RING}),
    (facts.shows_torn_ring, {"program": TWO, "buffers": LINE, "run": RUN, "value": TWISTED}),
    (pairs.loose_pairs, {"program": MIXED, "buffers": LANES}),
    (pairs.live_pairs, {"program": MIXED, "buffers": LANES}),
    (pairs.ring_for, {"program": THREE, "buffers": LINE, "pair": (0, 0, 1)}),
    (pairs.shows_ring, {"program": THREE, "pair": (0, 0, 1), "value": ((1, 0, 0), (2, 0, 1))}),
    (pairs.shows_ring, {"program": THREE, "pair": (0, 0, 1), "value": TWISTED}),
    (pairs.is_faithful, {"program": MESSAGE, "buffers": LANES}),
    (pairs.least_room, {"program": MESSAGE, "word": "lanes"}),
    (tearing.fewest_steps, {"program": MIXED, "buffers": LANES}),
    (tearing.tearing_run, {"program": MIXED, "buffers": LANES}),
    (tearing.shows_tearing, {"program": TWO, "buffers": LINE, "value": RUN}),
    (tearing.shows_tearing, {"program": TWO, "buffers": LINE, "value": TWISTED}),
)


class Conventions(unittest.TestCase):
    def test_names_in_any_order(self):
        for function, given in CALLS:
            wanted = function(*given.values())
            self.assertEqual(list(given), list(inspect.signature(function).parameters))
            names = list(given)
            for many in range(len(names)):
                for turned in (names[many:] + names[:many], names[::-1]):
                    self.assertEqual(wanted, function(**{name: given[name] for name in turned}))
                left = {name: given[name] for name in names[many:][::-1]}
                self.assertEqual(wanted, function(*[given[name] for name in names[:many]], **left))

    def test_equal_calls(self):
        for function, given in CALLS:
            first = function(**given)
            for _ in range(2):
                self.assertEqual(repr(first), repr(function(**given)))
                self.assertEqual(repr(first), repr(function(**copy.deepcopy(given))))

    def test_arguments_stay(self):
        for function, given in CALLS:
            before = copy.deepcopy(given)
            function(**given)
            self.assertEqual(repr(before), repr(given))

    def test_only_tuples_and_plain_values(self):
        for function, given in CALLS:
            found = function(**given)
            self.assertTrue(type(found) is bool or is_all_tuples(found), function)

    def test_errors_twice(self):
        for _ in range(2):
            with self.assertRaises(Incomplete):
                stories.story_of(run=RUN[:5], buffers=LINE, program=TWO)
            with self.assertRaises(NotLive) as held:
                pairs.ring_for(pair=TWISTED, buffers=LINE, program=TWO)
            self.assertIs(TWISTED, held.exception.pair)
            self.assertEqual((["do", 0], {"a": [1, (2, {})]}, []), TWISTED)

    def test_what_was_returned_may_be_passed_back(self):
        run = tearing.tearing_run(MESSAGE, LANES)
        self.assertIs(True, tearing.shows_tearing(MESSAGE, LANES, run))
        ring = facts.torn_ring(MESSAGE, LANES, run)
        self.assertIs(True, facts.shows_torn_ring(MESSAGE, LANES, run, ring))
        for pair in pairs.live_pairs(MESSAGE, LANES):
            ring = pairs.ring_for(MESSAGE, LANES, pair)
            self.assertIs(True, pairs.shows_ring(MESSAGE, pair, ring))
        story = stories.story_of(TWO, LINE, RUN)
        self.assertIs(True, stories.shows_story_ring(TWO, story, stories.story_ring(TWO, story)))
