"""Loose and live pairs, the rings for them, and whether programs are faithful."""

import itertools
import unittest

from ringfences.errors import NotLive
from ringfences.pairs import is_faithful, least_room, live_pairs, loose_pairs, ring_for, shows_ring
from ringfences.programs import is_program
from tests.helper import BUFFERS, EMPTY, LANES, LINE, MESSAGE, SMALL, THREE, TWO
from tests.helper import all_visits, is_all_tuples, is_ring_for, listed, loose_by_search, plain_stories
from tests.helper import random_programs, rings_for, situations, values, varied

# From y one comes to z through thread 1 or thread 2, and from z to x through thread 1 alone,
# so that only the way through thread 2 leads on.
TURN = (
    (("store", "x"), ("load", "y")),
    (("load", "z"), ("load", "x"), ("store", "y"), ("store", "z")),
    (("store", "y"), ("store", "z")),
)
# From y one comes to x only if thread 1 is visited twice, its later part first.
TWICE = (
    (("store", "x"), ("load", "y")),
    (("load", "z"), ("load", "x"), ("store", "y")),
    (("load", "y"), ("store", "z")),
)
# A ring through six threads that has no shorter one.
CHAIN = (
    (("store", "a"), ("load", "b")),
    (("store", "b"), ("fence",), ("load", "c")),
    (("store", "c"), ("fence",), ("load", "d")),
    (("store", "d"), ("fence",), ("load", "e")),
    (("store", "e"), ("fence",), ("load", "f")),
    (("store", "f"), ("fence",), ("load", "a")),
)


def store(variable):
    return ("store", variable)


def load(variable):
    return ("load", variable)


class Loose(unittest.TestCase):
    def check(self, rows, buffers, *wanted):
        self.assertEqual(wanted, loose_pairs((rows,), buffers), (rows, buffers))

    def test_lines_and_lanes(self):
        for rows in ((store("x"), load("y")), (store("x"), ("load", "xx"))):
            for buffers in BUFFERS:
                self.check(rows, buffers, (0, 0, 1))
        rows = (store("x"), store("y"))
        for room in (1, 2, 16):
            self.check(rows, ("line", room))
            self.check(rows, ("lanes", room), (0, 0, 1))

    def test_the_same_variable(self):
        for word in ("store", "load", "swap"):
            for buffers in BUFFERS:
                self.check((store("x"), (word, "x")), buffers)

    def test_only_stores_are_early(self):
        for early in (load("x"), ("swap", "x"), ("fence",)):
            for late in (load("y"), store("y"), ("swap", "y"), ("fence",)):
                for buffers in BUFFERS:
                    self.check((early, late), buffers)

    def test_fences_and_swaps(self):
        for wall in (("fence",), ("swap", "z"), ("swap", "x"), ("swap", "y")):
            for buffers in BUFFERS:
                self.check((store("x"), wall), buffers)
                self.check((store("x"), wall, load("y")), buffers)
                self.check((store("x"), load("z"), wall, load("y")), buffers, (0, 0, 1))
                # One that stands ahead of early or behind late keeps nothing apart.
                self.check((wall, store("x"), load("y")), buffers, (0, 1, 2))
                self.check((store("x"), load("y"), wall), buffers, (0, 0, 1))

    def test_a_store_to_the_variable_of_the_load(self):
        rows = (store("x"), store("y"), load("y"))
        for room in (1, 2, 3, 16):
            self.check(rows, ("line", room))
            self.check(rows, ("lanes", room), (0, 0, 1), (0, 0, 2))
        rows = (store("y"), store("x"), load("y"))
        for buffers in (("line", 2), LINE, ("line", 16)):
            self.check(rows, buffers, (0, 1, 2))
        self.check(rows, ("line", 1), (0, 1, 2))
        self.check(rows, LANES, (0, 0, 1), (0, 1, 2))
        # A load in between hinders nothing, nor a store behind late.
        rows = (store("x"), load("y"), load("y"), store("y"), load("y"))
        self.check(rows, LINE, (0, 0, 1), (0, 0, 2))
        self.check(rows, LANES, (0, 0, 1), (0, 0, 2), (0, 0, 3), (0, 0, 4))

    def test_room_of_lines(self):
        for room in range(1, 17):
            for many in (room, room + 1):
                rows = (store("x"),) * many + (load("y"),)
                wanted = tuple((0, early, many) for early in range(many - room, many) if early >= 0)
                self.check(rows, ("line", room), *wanted)
                rows = (store("x"),) + (store("z"),) * (many - 1) + (load("y"),)
                self.assertIs(many <= room, (0, 0, many) in loose_pairs((rows,), ("line", room)))

    def test_room_of_lanes(self):
        for room in range(1, 17):
            for many in (room, room + 1):
                rows = (store("x"),) * many + (load("y"),)
                wanted = tuple((0, early, many) for early in range(many - room, many) if early >= 0)
                self.check(rows, ("lanes", room), *wanted)
                # Stores to other variables take no room of this lane.
                rows = (store("x"),) + (store("z"),) * many + (load("y"),)
                self.assertIn((0, 0, many + 1), loose_pairs((rows,), ("lanes", room)))

    def test_the_late_store_needs_no_room(self):
        rows = (store("x"), store("y"))
        self.check(rows, ("lanes", 1), (0, 0, 1))
        rows = (store("x"), store("x"), store("y"), store("x"))
        self.check(rows, ("lanes", 1), (0, 1, 2), (0, 2, 3))
        self.check(rows, ("lanes", 2), (0, 0, 2), (0, 1, 2), (0, 2, 3))

    def test_several_threads(self):
        program = ((load("x"),), (store("x"), load("y")), (), (store("x"), store("z"), load("y")))
        self.assertEqual(((1, 0, 1), (3, 0, 2), (3, 1, 2)), loose_pairs(program, LINE))
        self.assertEqual(((1, 0, 1), (3, 1, 2)), loose_pairs(program, ("line", 1)))
        self.assertEqual(((1, 0, 1), (3, 0, 1), (3, 0, 2), (3, 1, 2)), loose_pairs(program, ("lanes", 1)))

    def test_against_a_search(self):
        # A pair is loose if the thread alone can have done late, so that others can see it, while early waits.
        programs = random_programs(60, 5, 9) + [(rows,) for rows in itertools.product(
            (store("x"), store("y"), load("x"), load("y"), ("swap", "x"), ("fence",)), repeat=3)]
        for program in programs + list(SMALL):
            for buffers in (("line", 1), ("line", 2), LINE, ("lanes", 1), ("lanes", 2)):
                self.assertEqual(loose_by_search(program, buffers), loose_pairs(program, buffers), (program, buffers))


class Live(unittest.TestCase):
    def check(self, program, buffers):
        live = live_pairs(program, buffers)
        self.assertTrue(is_all_tuples(live))
        loose = loose_pairs(program, buffers)
        self.assertEqual(tuple(pair for pair in loose if rings_for(program, pair)), live)
        self.assertIs(not live, is_faithful(program, buffers))
        for pair in loose:
            if pair in live:
                ring = ring_for(program, buffers, pair)
                self.assertTrue(is_all_tuples(ring))
                self.assertIn(ring, rings_for(program, pair))
                self.assertIs(True, shows_ring(program, pair, ring))
            else:
                with self.assertRaises(NotLive) as held:
                    ring_for(program, buffers, pair)
                self.assertIs(pair, held.exception.pair)
        return len(loose), len(live)

    def test_small_programs(self):
        many = [0, 0]
        for program in SMALL + (TURN, TWICE) + tuple(random_programs(120, 6, 11)):
            for buffers in (("line", 1), LINE, ("lanes", 1), LANES):
                loose, live = self.check(program, buffers)
                many = [many[0] + loose, many[1] + live]
        self.assertGreater(many[1], 100)
        self.assertGreater(many[0] - many[1], 100)

    def test_rings_over_several_threads(self):
        self.assertEqual(((0, 0, 1),), live_pairs(THREE, LINE))
        self.assertEqual(((1, 0, 0), (2, 0, 1)), ring_for(THREE, LINE, (0, 0, 1)))
        self.assertEqual(((0, 0, 1),), live_pairs(CHAIN, LINE))
        wanted = tuple((thread, 0, 2) for thread in range(1, 6))
        self.assertEqual(wanted, ring_for(CHAIN, LINE, (0, 0, 1)))
        # Each thread of the ring is needed.
        for cut in range(1, 6):
            self.assertEqual((), live_pairs(CHAIN[:cut] + ((),) + CHAIN[cut + 1:], LINE))

    def test_first_and_last(self):
        # One access is first and last.
        program = ((store("x"), load("y")), (("swap", "y"), load("x")))
        self.assertEqual(((1, 0, 1),), ring_for(program, LINE, (0, 0, 1)))
        program = ((store("x"), store("y")), (load("y"),), (load("x"),))
        self.assertEqual((), live_pairs(program, LANES))
        program = ((store("x"), load("y")), (load("x"), store("y")))
        self.assertEqual((), live_pairs(program, LINE))
        self.assertEqual((), live_pairs(program, LANES))

    def test_a_way_that_needs_another_thread_first(self):
        ring = ring_for(TURN, LINE, (0, 0, 1))
        self.assertEqual(((2, 0, 1), (1, 0, 1)), ring)
        self.assertIn((0, 0, 1), live_pairs(TURN, LINE))

    def test_no_thread_twice(self):
        self.assertEqual((), live_pairs(TWICE, LINE))
        self.assertIs(True, is_faithful(TWICE, LINE))
        self.assertIs(False, shows_ring(TWICE, (0, 0, 1), ((1, 2, 2), (2, 0, 1), (1, 0, 1))))
        with self.assertRaises(NotLive):
            ring_for(TWICE, LINE, (0, 0, 1))

    def test_the_own_thread_is_no_help(self):
        program = ((store("x"), load("y"), store("y"), load("x")), (store("y"),), (load("x"),))
        self.assertEqual((), live_pairs(program, LINE))

    def test_one_thread_is_faithful(self):
        rows = (store("x"), store("y"), load("z"), load("x"), ("swap", "x"), store("y"), load("x"))
        for buffers in BUFFERS:
            self.assertEqual((), live_pairs((rows,), buffers))
            self.assertIs(True, is_faithful((rows,), buffers))
            self.assertIs(True, is_faithful(EMPTY, buffers))
            self.assertEqual((), live_pairs(EMPTY, buffers))

    def test_faithful_as_the_stories(self):
        many = {True: 0, False: 0}
        for program in SMALL + tuple(random_programs(40, 7)):
            plain = plain_stories(program)
            for buffers in (("line", 1), LINE, ("lanes", 1), LANES):
                wanted = all(model.story() in plain for _, model in situations(program, buffers) if model.is_complete())
                self.assertIs(wanted, is_faithful(program, buffers), (program, buffers))
                many[wanted] += 1
        self.assertGreater(min(many.values()), 20)

    def test_less_waiting(self):
        for program in SMALL + tuple(random_programs(40, 8, 10)):
            for room in range(1, 5):
                line, lanes = (set(live_pairs(program, (word, room))) for word in ("line", "lanes"))
                self.assertLessEqual(line, lanes)
                for word, pairs in (("line", line), ("lanes", lanes)):
                    self.assertLessEqual(pairs, set(live_pairs(program, (word, room + 1))))
            for changed in strengthened(program):
                self.assertIs(True, is_program(changed))
                for buffers in (("line", 1), LINE, ("lanes", 1), LANES):
                    if is_faithful(program, buffers):
                        self.assertIs(True, is_faithful(changed, buffers))


def strengthened(program):
    """The program with one more fence, or a swap in place of a store."""
    for thread, rows in enumerate(program):
        for at in range(len(rows) + 1):
            yield program[:thread] + (rows[:at] + (("fence",),) + rows[at:],) + program[thread + 1:]
        for at, row in enumerate(rows):
            if row[0] == "store":
                swapped = rows[:at] + (("swap", row[1]),) + rows[at + 1:]
                yield program[:thread] + (swapped,) + program[thread + 1:]


class RingFor(unittest.TestCase):
    def no(self, program, buffers, pair):
        before = repr(pair)
        with self.assertRaises(NotLive) as held:
            ring_for(program, buffers, pair)
        self.assertIs(pair, held.exception.pair)
        self.assertEqual(before, repr(pair))

    def test_pairs_that_are_not_loose(self):
        for pair in ((0, 1, 0), (0, 0, 0), (0, 1, 1), (0, 0, 2), (2, 0, 1), (-1, 0, 1), (-2, 0, 1), (0, 0, -1),
                     (0, -2, 1), (0, -2, -1), (10 ** 30, 0, 1), (0, 0, 10 ** 30)):
            self.no(TWO, LINE, pair)
        self.no(((store("x"), ("fence",), load("y")), TWO[1]), LINE, (0, 0, 2))
        self.no(MESSAGE, LINE, (0, 0, 1))

    def test_pairs_that_are_loose_and_not_live(self):
        self.no(((store("x"), load("y")), (load("x"), store("y"))), LINE, (0, 0, 1))
        self.no((TWO[0], ()), LINE, (0, 0, 1))
        self.no((TWO[0],), LANES, (0, 0, 1))

    def test_room(self):
        program = ((store("x"), store("z"), load("y")), (store("y"), load("x")))
        self.no(program, ("line", 1), (0, 0, 2))
        self.assertEqual(((1, 0, 1),), ring_for(program, ("line", 2), (0, 0, 2)))
        self.assertEqual(((1, 0, 1),), ring_for(program, ("lanes", 1), (0, 0, 2)))

    def test_booleans_and_lists(self):
        for pair in ((False, 0, 1), (0, False, 1), (0, 0, True), (False, False, True), [0, 0, 1], [[0, 0, 1]],
                     ((0, 0), 1), (0, (0, 1)), (0, [0], 1), ([0], 0, 1), (0, 0), (0, 0, 1, 1), ((0, 0, 1),), (0, 0, {})):
            self.no(TWO, LINE, pair)
            self.no(TWO, LANES, pair)

    def test_any_value(self):
        for value in values():
            for pair in (value, (value, 0, 1), (0, 0, value), (0, value, 1), (0, 0, 1, value), ((0, 0, 1), value)):
                if repr(pair) not in ("(0, 0, 1)", "(1, 0, 1)"):
                    self.no(TWO, LINE, pair)
            self.no(EMPTY, LINE, value)


class ShowsRing(unittest.TestCase):
    def test_all_tuples_of_visits(self):
        programs = (TWO, THREE, MESSAGE, ((store("x"), ("fence",), load("y")), (("swap", "y"), ("fence",), load("x"))))
        numbers = list(itertools.product(range(-1, 4), range(-1, 3), range(-1, 4)))
        for program in programs:
            for pair in pairs_of_accesses(program):
                for visit in numbers:
                    wanted = is_ring_for(program, pair, (visit,))
                    self.assertIs(wanted, shows_ring(program, pair, (visit,)), (program, pair, visit))
                for value in itertools.product(all_visits(program), repeat=2):
                    self.assertIs(is_ring_for(program, pair, value), shows_ring(program, pair, value), value)

    def test_three_visits(self):
        for program in (TURN, THREE):
            for value in itertools.product(all_visits(program), repeat=3):
                self.assertIs(is_ring_for(program, (0, 0, 1), value), shows_ring(program, (0, 0, 1), value), value)

    def test_pairs_that_are_not_loose(self):
        # The ends may be loads, swaps or of one variable, and a fence may stand between them.
        program = ((load("x"), ("fence",), ("swap", "x"), store("x")), (load("x"), store("x")), (load("x"),))
        for pair in pairs_of_accesses(program):
            # No ring is empty, not even where early and late meet.
            for many in (0, 1, 2):
                for value in itertools.product(all_visits(program), repeat=many):
                    self.assertIs(is_ring_for(program, pair, value), shows_ring(program, pair, value), (pair, value))
        self.assertIs(True, shows_ring(program, (0, 0, 2), ((1, 0, 1),)))
        self.assertIs(False, shows_ring(program, (0, 0, 2), ((1, 0, 0),)))

    def test_wrong_forms(self):
        ring = ((1, 0, 0), (2, 0, 1))
        self.assertIs(True, shows_ring(THREE, (0, 0, 1), ring))
        for value in ((), ring[:1], ring[1:], ring[::-1], ring + ring, ring * 2, ring + ((0, 0, 0),), (ring,), ring[0],
                      ((1, 0, 0), (2, 1, 0)), ((1, 0, 0), (2, 0, 2)), ((1, 0, 1), (2, 0, 1)), ((1, 0, 0), (2, -2, -1)),
                      ((-2, 0, 0), (2, 0, 1)), ((1, 0, 0), (-1, 0, 1)), ((1, False, 0), (2, 0, 1)),
                      ((True, 0, 0), (2, 0, 1)), ((1, 0, 0), (2, 0, True)), ((1, 0), (2, 0, 1)),
                      ((1, 0, 0, 0), (2, 0, 1)), ((1, 0, 0), (3, 0, 1)), ((1, 0, 0), (10 ** 30, 0, 1)),
                      ((1, 0, 0), (1, 0, 0), (2, 0, 1)), ((0, 0, 1), (2, 0, 1))):
            self.assertIs(False, shows_ring(THREE, (0, 0, 1), value), value)

    def test_fences_are_no_accesses(self):
        program = ((store("x"), load("y")), (("fence",), store("y"), ("fence",), load("x"), ("fence",)))
        for first, last in itertools.product(range(-1, 6), repeat=2):
            wanted = (first, last) == (1, 3)
            self.assertIs(wanted, shows_ring(program, (0, 0, 1), ((1, first, last),)), (first, last))

    def test_lists_and_near_values(self):
        ring = ((1, 0, 0), (2, 0, 1))
        for value in listed(ring):
            self.assertIs(False, shows_ring(THREE, (0, 0, 1), value), value)
        right = {repr(value) for value in rings_for(THREE, (0, 0, 1))}
        for value in varied(ring):
            self.assertIs(repr(value) in right, shows_ring(THREE, (0, 0, 1), value), value)

    def test_any_value(self):
        for value in values():
            before = repr(value)
            self.assertIs(False, shows_ring(TWO, (0, 0, 1), value), value)
            for near in ((value,), (value, (1, 0, 1)), ((1, 0, 1), value), ((1, 0, value, 1),), ((value, value, value),)):
                self.assertIs(False, shows_ring(TWO, (0, 0, 1), near), near)
            self.assertIs(before == "1", shows_ring(TWO, (0, 0, 1), ((value, 0, 1),)), value)
            self.assertIs(before == "0", shows_ring(TWO, (0, 0, 1), ((1, value, 1),)), value)
            self.assertIs(before == "1", shows_ring(TWO, (0, 0, 1), ((1, 0, value),)), value)
            self.assertEqual(before, repr(value))


def pairs_of_accesses(program):
    return [(thread, early, late) for thread, early, late in all_visits(program) if early < late]


class LeastRoom(unittest.TestCase):
    OTHER = (store("y"), ("fence",), load("x"))

    def test_stores_in_between(self):
        for many in range(6):
            rows = (store("x"),) + (store("z"),) * many + (load("y"),)
            self.assertEqual(many + 1, least_room((rows, self.OTHER), "line"))
            self.assertEqual(1, least_room((rows, self.OTHER), "lanes"))
            # The store that is early here is followed by others to its variable, which thread 1 does not read.
            rows = (store("x"),) + (store("x"),) * many + (load("y"),)
            self.assertEqual(1, least_room((rows, self.OTHER), "line"))
            self.assertEqual(1, least_room((rows, self.OTHER), "lanes"))

    def test_loads_take_no_room(self):
        rows = (store("x"), load("z"), load("z"), load("y"))
        self.assertEqual(1, least_room((rows, self.OTHER), "line"))

    def test_as_is_faithful(self):
        found = {}
        chosen = [(rows, self.OTHER) for rows in itertools.product((store("x"), store("z"), load("y")), repeat=5)]
        for program in SMALL + tuple(random_programs(40, 9, 12)) + tuple(chosen):
            for word in ("line", "lanes"):
                rooms = [room for room in range(1, 17) if not is_faithful(program, (word, room))]
                wanted = rooms[0] if rooms else None
                self.assertEqual(wanted, least_room(program, word), (program, word))
                found[wanted] = True
        self.assertLessEqual({None, 1, 2, 3, 4}, set(found))

    def test_faithful(self):
        for program in (EMPTY, ((),), (TWO[0],), (TWO[0], ()), ((("fence",),),), (self.OTHER, self.OTHER)):
            for word in ("line", "lanes"):
                self.assertIsNone(least_room(program, word))
        self.assertIsNone(least_room(MESSAGE, "line"))
        self.assertEqual(1, least_room(MESSAGE, "lanes"))

    def test_the_most(self):
        # With fifteen stores to other variables in between there is no more room in the thread.
        rows = (store("x"),) + (store("z"),) * 14 + (load("y"),)
        self.assertEqual(15, least_room((rows, self.OTHER), "line"))
        self.assertIs(True, is_faithful((rows, self.OTHER), ("line", 14)))
        self.assertIs(False, is_faithful((rows, self.OTHER), ("line", 15)))
        self.assertEqual(1, least_room((rows, self.OTHER), "lanes"))
