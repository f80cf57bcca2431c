"""What point [3] guarantees over the whole package."""

import random
import unittest

from ringfences.desk import Desk
from ringfences.errors import TooMany, Unfaithful
from ringfences.exploring import plain_count, stories, story_count
from ringfences.facts import is_torn
from ringfences.guards import Guard
from ringfences.machine import Machine, tried
from ringfences.needless import needless_fences, thinned
from ringfences.pairs import is_faithful, least_room, live_pairs
from ringfences.prices import cheapest, weights
from ringfences.remedies import applied, apart, fewest, shows_cure
from ringfences.runs import completed
from ringfences.stories import plain_order, story_of
from ringfences.tearing import fewest_steps, shows_tearing, tearing_run
from ringfences.texts import format_program, format_remedies, format_run, parse_program, parse_remedies, parse_run
from tests.helper import BUFFERS, GREATEST, LANES, LINE, MESSAGE, SMALL, THREE, TWO
from tests.helper import all_remedies, dense_programs, random_programs
from tests.test_bounds import FENCE, PROGRAMS, chain
from tests.test_bounds_of_cures import WALLED
from tests.test_desk import desk_of

SOME = (("line", 1), ("line", 2), LINE, ("lanes", 1), ("lanes", 2), LANES)


def raises(error, function, *given):
    """Whether a call raises an error; no other one."""
    try:
        function(*given)
    except error:
        return True
    return False


def opinions(program, buffers):
    """Whether a program is faithful, as each part of the package tells it."""
    whole = tuple((remedy, 1 + number) for number, remedy in enumerate(all_remedies(program)))
    least = least_room(program, buffers[0])
    desk = desk_of(program, buffers)
    return {
        "live pairs": live_pairs(program, buffers) == (),
        "is_faithful": is_faithful(program, buffers),
        "fewest steps": fewest_steps(program, buffers) is None,
        "tearing run": tearing_run(program, buffers) is None,
        "fences": fewest(program, buffers, "fence") == (),
        "swaps": fewest(program, buffers, "swap") == (),
        "pairs no fence cuts": apart(program, buffers, "fence") == (),
        "pairs no swap cuts": apart(program, buffers, "swap") == (),
        "prices": cheapest(program, buffers, whole) == (0, ()),
        "no prices": cheapest(program, buffers, ()) is not None,
        "weights": weights(program, buffers, whole) == (),
        "no weights": weights(program, buffers, ()) is not None,
        "empty cure": shows_cure(program, buffers, ()),
        "empty guard": Guard(program).left(buffers) == (),
        "least guard": not raises(Unfaithful, Guard(program).least, buffers),
        "needless fences": not raises(Unfaithful, needless_fences, program, buffers),
        "thinned": not raises(Unfaithful, thinned, program, buffers),
        "least room": least is None or buffers[1] < least,
        "desk": desk.say("faithful") == "yes",
        "pairs of the desk": desk.say("pairs") == "none",
        "steps of the desk": desk.say("steps") == "none",
        "run of the desk": desk.say("run") == "none",
        "fences of the desk": desk.say("fences") == "0",
        "swaps of the desk": desk.say("swaps") == "0",
        "needless of the desk": not raises(Unfaithful, desk.say, "needless"),
    }


class Faithful(unittest.TestCase):
    def check(self, program, buffers):
        found = opinions(program, buffers)
        self.assertEqual(1, len(set(found.values())), (program, buffers, found))
        return found["is_faithful"]

    def test_small_programs(self):
        many = {True: 0, False: 0}
        for program in SMALL + tuple(random_programs(20, 100, 8) + dense_programs(30, 101)):
            for buffers in BUFFERS:
                many[self.check(program, buffers)] += 1
        self.assertGreater(min(many.values()), 100)

    def test_programs_at_the_bounds(self):
        for program in PROGRAMS + (WALLED, chain((FENCE,) * 13), chain((FENCE,) * 13)[1:]):
            for buffers in (("line", 1), ("lanes", 16)):
                self.check(program, buffers)

    def test_all_stories(self):
        # Point [3] (a): without a live pair all stories are plain, and with one some are not.
        for program in (TWO, MESSAGE, THREE) + tuple(dense_programs(20, 102, 2, 3) + random_programs(10, 103, 6)):
            for buffers in SOME:
                faithful = self.check(program, buffers)
                found = list(stories(program, buffers))
                plain = [story for story in found if plain_order(program, story) is not None]
                self.assertEqual(plain_count(program), len(plain))
                self.assertIs(faithful, len(plain) == len(found))
                self.assertIs(faithful, story_count(program, buffers) == plain_count(program))


class Torn(unittest.TestCase):
    def test_no_end_is_plain(self):
        # Point [3] (b), however the run goes on.
        source = random.Random(104)
        for program in SMALL + tuple(dense_programs(25, 105)):
            for buffers in SOME:
                run = tearing_run(program, buffers)
                if run is None:
                    continue
                for _ in range(5):
                    machine = Machine.replayed(program, buffers, run)
                    while machine.possible():
                        self.assertIs(True, machine.is_torn())
                        machine.do(source.choice(machine.possible()))
                    self.assertIsNone(plain_order(program, machine.story()))
                    self.assertIs(True, shows_tearing(program, buffers, machine.steps))

    def test_drawn_runs(self):
        source = random.Random(106)
        many = {True: 0, False: 0}
        for program in SMALL + tuple(dense_programs(25, 107)):
            for buffers in SOME:
                least = fewest_steps(program, buffers)
                for _ in range(8):
                    machine = Machine(program, buffers)
                    while machine.possible():
                        machine.do(source.choice(machine.possible()))
                        if machine.is_torn():
                            self.assertLessEqual(least, len(machine))
                    many[machine.is_torn()] += 1
                    self.assertIs(machine.is_torn(), plain_order(program, machine.story()) is None)
        self.assertGreater(min(many.values()), 20)


class LessWaiting(unittest.TestCase):
    def test_room_and_words(self):
        for program in SMALL + tuple(dense_programs(40, 108, 4, 9)):
            for word in ("line", "lanes"):
                faithful = [is_faithful(program, (word, room)) for room in range(1, 17)]
                self.assertEqual(sorted(faithful, reverse=True), faithful)
            for room in range(1, 17):
                self.assertLessEqual(is_faithful(program, ("lanes", room)), is_faithful(program, ("line", room)))

    def test_fences_and_swaps(self):
        source = random.Random(109)
        for program in SMALL + tuple(dense_programs(40, 110)):
            for buffers in SOME:
                guard = Guard(program)
                faithful = is_faithful(program, buffers)
                whole = all_remedies(program)
                for remedy in source.sample(whole, min(6, len(whole))):
                    guard = guard + remedy
                    now = is_faithful(guard.program_now(), buffers)
                    self.assertTrue(now or not faithful)
                    self.assertIs(now, guard.left(buffers) == ())
                    self.assertIs(now, shows_cure(program, buffers, guard.remedies))
                    faithful = now


class Together(unittest.TestCase):
    def test_from_text_to_text(self):
        for program in SMALL + (GREATEST,) + tuple(dense_programs(20, 111)):
            for buffers in (LINE, LANES):
                machine = Machine(parse_program(format_program(program)), buffers)
                self.assertEqual(program, machine.program)
                run = completed(program, buffers, parse_run(format_run(tearing_run(program, buffers) or ())))
                for step in parse_run(format_run(run)):
                    machine.do(step)
                self.assertEqual(story_of(program, buffers, run), machine.story())
                self.assertIs(machine.is_torn(), is_torn(program, buffers, run))
                for word in ("fence", "swap"):
                    cure = fewest(program, buffers, word)
                    guard = Guard(program, parse_remedies(program, format_remedies(cure)))
                    self.assertEqual(cure, guard.least(buffers).remedies)

    def test_cured_machines(self):
        source = random.Random(112)
        for program in SMALL + tuple(dense_programs(15, 113)):
            for buffers in SOME:
                for word in ("fence", "swap"):
                    cured = applied(program, fewest(program, buffers, word))
                    self.assertIsNone(fewest_steps(cured, buffers))
                    machine = Machine(cured, buffers)
                    while machine.possible():
                        machine.do(source.choice(machine.possible()))
                    self.assertIs(False, machine.is_torn())
                    self.assertIsNotNone(plain_order(cured, machine.story()))

    def test_looks(self):
        machine = Machine(TWO, LINE)

        def look(one):
            one.finish()
            return one.story()

        known = list(stories(TWO, LINE))
        for step in tearing_run(TWO, LINE):
            self.assertIn(tried(machine, look), known)
            machine.do(step)
        self.assertIsNone(plain_order(TWO, tried(machine, look)))

    def test_equal_calls_in_another_order(self):
        # Nothing that was asked for in between is remembered.
        calls = [lambda: tuple(stories(TWO, LINE)), lambda: fewest(TWO, LINE, "fence"), lambda: tearing_run(TWO, LANES),
                 lambda: raises(TooMany, plain_count, GREATEST), lambda: opinions(MESSAGE, LANES),
                 lambda: desk_of(TWO, LINE).say("run"), lambda: raises(Unfaithful, thinned, TWO, LINE),
                 lambda: Machine(TWO, LINE).finish(), lambda: Desk().say("line 1 thread")]
        first = [call() for call in calls]
        self.assertEqual(first[::-1], [call() for call in calls[::-1]])
