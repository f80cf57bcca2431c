"""What point [2] says of every function from point [7] on: names, equal calls, arguments that stay."""

import copy
import inspect
import unittest

from ringfences import exploring, facts, machine, needless, pairs, prices, remedies, stories, tearing, texts
from ringfences.desk import Desk
from ringfences.errors import Incomplete, NotLive, TooLong, TooMany, Unfaithful
from ringfences.guards import Guard
from ringfences.machine import Machine, Trial
from tests.helper import GREATEST, LANES, LINE, MESSAGE, MIXED, THREE, TWO
from tests.helper import is_all_tuples, permuted

RUN = (("do", 0), ("do", 0), ("do", 1), ("do", 1), ("flush", 0, "x"), ("flush", 1, "y"))
STORY = ((((0, 1), None), ((1, 1), None)), (("x", ((0, 0),)), ("y", ((1, 0),))))
OTHER = ((((0, 1), (1, 0)), ((1, 1), None)), STORY[1])
RING = ((0, 0), (0, 1), (1, 0), (1, 1))
TWISTED = (["do", 0], {"a": [1, (2, {})]}, [])
CURE = (("fence", 1, 1), ("swap", 0, 0))
PRICES = ((("fence", 0, 1), 3), (("fence", 1, 1), 3), (("swap", 0, 0), 2))
WEIGHTS = (((0, 0, 1), 2), ((1, 0, 1), 3))
FENCED = (TWO[0][:1] + (("fence",), ("fence",)) + TWO[0][1:], TWO[1][:1] + (("fence",),) + TWO[1][1:])

CALLS = (
    (stories.story_of, {"program": TWO, "buffers": LINE, "run": RUN}),
    (stories.is_story, {"program": TWO, "value": STORY}),
    (stories.is_story, {"program": TWO, "value": TWISTED}),
    (stories.plain_order, {"program": TWO, "story": STORY}),
    (stories.plain_order, {"program": TWO, "story": OTHER}),
    (stories.shows_plain, {"program": TWO, "story": OTHER, "value": (1, 1, 0, 0)}),
    (stories.shows_plain, {"program": TWO, "story": OTHER, "value": TWISTED}),
    (stories.story_ring, {"program": TWO, "story": STORY}),
    (stories.shows_story_ring, {"program": TWO, "story": STORY, "value": RING}),
    (stories.shows_story_ring, {"program": TWO, "story": STORY, "value": TWISTED}),
    (facts.facts, {"program": TWO, "buffers": LINE, "run": RUN}),
    (facts.is_torn, {"program": TWO, "buffers": LINE, "run": RUN}),
    (facts.torn_ring, {"program": TWO, "buffers": LINE, "run": RUN}),
    (facts.shows_torn_ring, {"program": TWO, "buffers": LINE, "run": RUN, "value": RING}),
    (facts.shows_torn_ring, {"program": TWO, "buffers": LINE, "run": RUN, "value": TWISTED}),
    (pairs.loose_pairs, {"program": MIXED, "buffers": LANES}),
    (pairs.live_pairs, {"program": MIXED, "buffers": LANES}),
    (pairs.ring_for, {"program": THREE, "buffers": LINE, "pair": (0, 0, 1)}),
    (pairs.shows_ring, {"program": THREE, "pair": (0, 0, 1), "value": ((1, 0, 0), (2, 0, 1))}),
    (pairs.shows_ring, {"program": THREE, "pair": (0, 0, 1), "value": TWISTED}),
    (pairs.is_faithful, {"program": MESSAGE, "buffers": LANES}),
    (pairs.least_room, {"program": MESSAGE, "word": "lanes"}),
    (tearing.fewest_steps, {"program": MIXED, "buffers": LANES}),
    (tearing.tearing_run, {"program": MIXED, "buffers": LANES}),
    (tearing.shows_tearing, {"program": TWO, "buffers": LINE, "value": RUN}),
    (tearing.shows_tearing, {"program": TWO, "buffers": LINE, "value": TWISTED}),
    (remedies.is_remedies, {"program": TWO, "value": CURE}),
    (remedies.is_remedies, {"program": TWO, "value": TWISTED}),
    (remedies.cuts, {"remedy": ("swap", 0, 0), "pair": (0, 0, 1)}),
    (remedies.applied, {"program": TWO, "remedies": CURE}),
    (remedies.shows_cure, {"program": TWO, "buffers": LINE, "value": CURE}),
    (remedies.shows_cure, {"program": TWO, "buffers": LINE, "value": TWISTED}),
    (remedies.fewest, {"program": MESSAGE, "buffers": LANES, "word": "swap"}),
    (remedies.apart, {"program": MESSAGE, "buffers": LANES, "word": "fence"}),
    (remedies.shows_apart, {"program": TWO, "buffers": LINE, "word": "fence", "value": ((0, 0, 1), (1, 0, 1))}),
    (remedies.shows_apart, {"program": TWO, "buffers": LINE, "word": "swap", "value": TWISTED}),
    (prices.is_price_list, {"program": TWO, "value": PRICES}),
    (prices.is_price_list, {"program": TWO, "value": TWISTED}),
    (prices.cheapest, {"program": TWO, "buffers": LINE, "price_list": PRICES}),
    (prices.weights, {"program": TWO, "buffers": LINE, "price_list": PRICES}),
    (prices.shows_weights, {"program": TWO, "buffers": LINE, "price_list": PRICES, "total": 5, "value": WEIGHTS}),
    (prices.shows_weights, {"program": TWO, "buffers": LINE, "price_list": PRICES, "total": TWISTED, "value": TWISTED}),
    (needless.needless_fences, {"program": FENCED, "buffers": LINE}),
    (needless.thinned, {"program": FENCED, "buffers": LANES}),
    (exploring.story_count, {"program": TWO, "buffers": LANES}),
    (exploring.stories, {"program": TWO, "buffers": LANES}),
    (exploring.plain_count, {"program": TWO}),
    (texts.parse_program, {"text": "thread store a; fence\nthread"}),
    (texts.parse_run, {"text": "do 0\nflush 0 x"}),
    (texts.parse_remedies, {"program": TWO, "text": "fence 1 1\nswap 0 0"}),
)
# These return strings.
WRITTEN = (
    (texts.format_program, {"program": FENCED}),
    (texts.format_run, {"run": RUN}),
    (texts.format_remedies, {"remedies": CURE}),
    (texts.listing, {"program": TWO, "buffers": LINE, "run": RUN}),
)


def guard():
    return Guard(TWO, CURE)


def made():
    return Machine.replayed(TWO, LINE, RUN[:3])


def desk():
    kept = Desk()
    kept.say("line 4 thread store x; load y / thread store y; load x")
    return kept


# Objects, what is called of them, and the arguments.
METHODS = (
    (guard, "is_within", {"other": guard()}),
    (guard, "left", {"buffers": LINE}),
    (guard, "cost", {"price_list": PRICES}),
    (guard, "least", {"buffers": LINE}),
    (guard, "program_now", {}),
    (made, "do", {"step": RUN[3]}),
    (made, "__call__", {"step": RUN[3]}),
    (made, "replayed", {"program": MESSAGE, "buffers": LANES, "run": RUN[:1]}),
    (made, "undo", {}),
    (made, "possible", {}),
    (made, "facts", {}),
    (made, "is_torn", {}),
    (made, "is_complete", {}),
    (made, "finish", {}),
    (made, "copy", {}),
    (desk, "say", {"line": "run"}),
    (desk, "say", {"line": "lanes 16 thread fence"}),
)


def answer(function, *given, **named):
    """What a call gives, all that it gives if it is a generator."""
    found = function(*given, **named)
    return tuple(found) if inspect.isgenerator(found) else found


class Conventions(unittest.TestCase):
    def test_names_in_any_order(self):
        for function, given in CALLS + WRITTEN:
            wanted = answer(function, *given.values())
            self.assertEqual(list(given), list(inspect.signature(function).parameters))
            for named in permuted(given):
                self.assertEqual(wanted, answer(function, **named))
            names = list(given)
            for many in range(len(names)):
                left = {name: given[name] for name in names[many:][::-1]}
                self.assertEqual(wanted, answer(function, *[given[name] for name in names[:many]], **left))

    def test_equal_calls(self):
        for function, given in CALLS + WRITTEN:
            first = answer(function, **given)
            for _ in range(2):
                self.assertEqual(repr(first), repr(answer(function, **given)))
                self.assertEqual(repr(first), repr(answer(function, **copy.deepcopy(given))))

    def test_arguments_stay(self):
        for function, given in CALLS + WRITTEN:
            before = copy.deepcopy(given)
            answer(function, **given)
            self.assertEqual(repr(before), repr(given))

    def test_only_tuples_and_plain_values(self):
        for function, given in CALLS:
            found = answer(function, **given)
            self.assertTrue(type(found) is bool or is_all_tuples(found), function)
        for function, given in WRITTEN:
            self.assertIs(str, type(function(**given)))

    def test_errors_twice(self):
        for _ in range(2):
            with self.assertRaises(Incomplete):
                stories.story_of(run=RUN[:5], buffers=LINE, program=TWO)
            with self.assertRaises(NotLive) as held:
                pairs.ring_for(pair=TWISTED, buffers=LINE, program=TWO)
            self.assertIs(TWISTED, held.exception.pair)
            self.assertEqual((["do", 0], {"a": [1, (2, {})]}, []), TWISTED)
            self.assertRaises(TooLong, remedies.applied, remedies=(("fence", 0, 0),), program=GREATEST)
            for function in (needless.needless_fences, needless.thinned):
                self.assertRaises(Unfaithful, function, buffers=LINE, program=TWO)
            self.assertRaises(TooMany, exploring.story_count, buffers=LINE, program=GREATEST)
            self.assertRaises(TooMany, next, exploring.stories(buffers=LINE, program=GREATEST))
            self.assertRaises(TooMany, exploring.plain_count, program=GREATEST)

    def test_what_was_returned_may_be_passed_back(self):
        run = tearing.tearing_run(MESSAGE, LANES)
        self.assertIs(True, tearing.shows_tearing(MESSAGE, LANES, run))
        ring = facts.torn_ring(MESSAGE, LANES, run)
        self.assertIs(True, facts.shows_torn_ring(MESSAGE, LANES, run, ring))
        for pair in pairs.live_pairs(MESSAGE, LANES):
            ring = pairs.ring_for(MESSAGE, LANES, pair)
            self.assertIs(True, pairs.shows_ring(MESSAGE, pair, ring))
        story = stories.story_of(TWO, LINE, RUN)
        self.assertIs(True, stories.shows_story_ring(TWO, story, stories.story_ring(TWO, story)))

    def test_cures_may_be_passed_back(self):
        for word in ("fence", "swap"):
            cure = remedies.fewest(MESSAGE, LANES, word)
            self.assertIs(True, remedies.shows_cure(MESSAGE, LANES, cure))
            self.assertIs(True, pairs.is_faithful(remedies.applied(MESSAGE, cure), LANES))
            self.assertIs(True, remedies.shows_apart(MESSAGE, LANES, word, remedies.apart(MESSAGE, LANES, word)))
        total, cure = prices.cheapest(TWO, LINE, PRICES)
        self.assertIs(True, remedies.shows_cure(TWO, LINE, cure))
        self.assertIs(True, prices.shows_weights(TWO, LINE, PRICES, total, prices.weights(TWO, LINE, PRICES)))
        for story in exploring.stories(TWO, LINE):
            self.assertIs(True, stories.is_story(TWO, story))


class Objects(unittest.TestCase):
    def test_names_in_any_order(self):
        for maker, name, given in METHODS:
            wanted = getattr(maker(), name)(*given.values())
            for named in permuted(given):
                self.assertEqual(wanted, getattr(maker(), name)(**named), name)
            for many in range(len(given)):
                left = {key: given[key] for key in list(given)[many:][::-1]}
                self.assertEqual(wanted, getattr(maker(), name)(*list(given.values())[:many], **left), name)

    def test_made_by_names(self):
        self.assertEqual(guard(), Guard(remedies=CURE, program=TWO))
        self.assertEqual(Machine(TWO, LINE), Machine(buffers=LINE, program=TWO))
        self.assertEqual(made(), Machine.replayed(run=RUN[:3], buffers=LINE, program=TWO))
        held = made()
        with Trial(machine=held) as one:
            self.assertIs(held, one)
        for named in permuted({"machine": held, "look": lambda one: one.finish()}):
            self.assertEqual(3, machine.tried(**named))

    def test_what_does_not_change(self):
        for maker, name, given in METHODS:
            if name in ("do", "__call__", "undo", "finish", "say"):
                continue
            before, kept = maker(), maker()
            arguments = repr({key: value for key, value in given.items() if key != "other"})
            first = getattr(kept, name)(**given)
            self.assertEqual(first, getattr(kept, name)(**given))
            self.assertEqual(before, kept)
            self.assertEqual(arguments, repr({key: value for key, value in given.items() if key != "other"}))

    def test_calls_that_raise_change_nothing(self):
        kept, talked = made(), desk()
        for act in (
            lambda: kept.do(("do", 7)), lambda: kept(TWISTED), lambda: kept[9], kept.story,
            lambda: machine.tried(kept, lambda one: (one.finish(), one.do(("do", 0)))),
            lambda: talked.say("line 4 thread x"), lambda: talked.say("undo"), lambda: talked.say(TWISTED),
            lambda: guard() + TWISTED, lambda: guard() - ("fence", 0, 0), lambda: Guard(TWISTED), lambda: Machine(TWO, TWISTED),
        ):
            self.assertRaises(ValueError, act)
            self.assertEqual(made(), kept)
            self.assertEqual("0/0 0/0 | x=- y=-", talked.say("state"))
            self.assertEqual((["do", 0], {"a": [1, (2, {})]}, []), TWISTED)
