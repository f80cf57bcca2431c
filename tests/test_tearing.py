"""Torn runs with the fewest steps."""

import unittest

from ringfences.facts import is_torn, shows_torn_ring, torn_ring
from ringfences.pairs import is_faithful
from ringfences.runs import completed, is_run
from ringfences.stories import plain_order, story_of
from ringfences.tearing import fewest_steps, shows_tearing, tearing_run
from tests.helper import BUFFERS, EMPTY, FENCED, FULL, LANES, LINE, MESSAGE, OWN, SMALL, THREE, TWO
from tests.helper import has_ring, is_all_tuples, listed, loose_by_search, model_facts, random_programs
from tests.helper import rings_for, situations, steps_by_search, values, varied

START = (("do", 0), ("do", 0), ("do", 1))
TORN = START + (("do", 1),)
BACK = ((("store", "x"), ("load", "y")), (("store", "y"), ("store", "x")))
BUFFERS_HERE = (("line", 1), ("line", 2), LINE, ("lanes", 1), ("lanes", 2))


def store(variable):
    return ("store", variable)


def load(variable):
    return ("load", variable)


FENCE = ("fence",)


def fewest_by_runs(program, buffers):
    """The least number of steps of a torn run, by a search in breadth over all runs."""
    for run, model in situations(program, buffers):
        if has_ring(model_facts(model)):
            return len(run)
    return None


def fewest_by_rings(program, buffers):
    """The least number of steps over all rings, with a search in breadth for each thread of a ring."""
    costs, found = {}, []
    for pair in loose_by_search(program, buffers):
        for ring in rings_for(program, pair):
            for visit in ring:
                if visit not in costs:
                    costs[visit] = steps_by_search(program[visit[0]], buffers, visit[1], visit[2])
            own = steps_by_search(program[pair[0]], buffers, pair[1], pair[2], pair[1])
            found.append(own + sum(costs[visit] for visit in ring))
    return min(found, default=None)


class Fewest(unittest.TestCase):
    def check(self, program, buffers, wanted):
        self.assertEqual(wanted, fewest_steps(program, buffers), (program, buffers))
        self.assertIs(wanted is None, is_faithful(program, buffers))
        run = tearing_run(program, buffers)
        if wanted is None:
            self.assertIsNone(run)
            return
        self.assertTrue(is_all_tuples(run))
        self.assertEqual(wanted, len(run))
        self.assertIs(True, is_run(program, buffers, run))
        self.assertIs(True, is_torn(program, buffers, run))
        self.assertIs(False, is_torn(program, buffers, run[:-1]))
        self.assertIs(True, shows_tearing(program, buffers, run))
        self.assertIs(True, shows_torn_ring(program, buffers, run, torn_ring(program, buffers, run)))
        whole = completed(program, buffers, run)
        self.assertIsNone(plain_order(program, story_of(program, buffers, whole)))

    def check_all(self, program, line, lanes):
        for buffers in BUFFERS:
            self.check(program, buffers, line if buffers[0] == "line" else lanes)

    def test_small_ones(self):
        self.check_all(TWO, 4, 4)
        self.check_all(THREE, 6, 6)
        self.check(BACK, LINE, 6)
        self.check_all(EMPTY, None, None)
        self.check_all((TWO[0],), None, None)
        self.check(MESSAGE, LINE, None)
        for room in (1, 2, 16):
            self.check(MESSAGE, ("lanes", room), 5)
            self.check(BACK, ("lanes", room), 5)

    def test_fences_and_swaps_in_the_ring(self):
        self.check_all((TWO[0], (store("y"), FENCE, load("x"))), 6, 6)
        self.check_all((TWO[0], (("swap", "y"), load("x"))), 4, 4)
        self.check_all((TWO[0], (store("y"), ("swap", "x"))), 5, 5)
        self.check_all((TWO[0], (FENCE, store("y"), ("swap", "z"), load("x"))), 7, 7)
        self.check_all((TWO[0], (("swap", "y"), ("swap", "x"))), 4, 4)
        self.check_all(((store("x"), FENCE, load("y")), (store("y"), FENCE, load("x"))), None, None)

    def test_fences_and_swaps_ahead(self):
        rows = (store("z"), FENCE, store("x"), load("y"))
        self.check_all((rows, TWO[1]), 7, 7)
        self.check_all((rows, (store("w"), ("swap", "w"), store("y"), load("x"))), 10, 10)

    def test_full_queues_ahead_of_the_pair(self):
        rows = (store("a"), store("b"), store("x"), load("y"))
        for room, wanted in ((1, 8), (2, 7), (3, 6), (16, 6)):
            self.check((rows, (("swap", "y"), load("x"))), ("line", room), wanted)
        for room in (1, 2, 16):
            self.check((rows, (("swap", "y"), load("x"))), ("lanes", room), 6)
        rows = (store("a"), store("a"), store("a"), store("x"), load("y"))
        for room, wanted in ((1, 9), (2, 8), (3, 7), (16, 7)):
            self.check((rows, (("swap", "y"), load("x"))), ("lanes", room), wanted)

    def test_full_queues_in_the_ring(self):
        rows = (store("y"), store("a"), store("b"), load("x"))
        for room, wanted in ((1, 8), (2, 7), (3, 6), (16, 6)):
            self.check(((store("x"), load("y")), rows), ("line", room), wanted)
        rows = (store("y"), store("a"), store("a"), load("x"))
        for room, wanted in ((1, 7), (2, 6), (16, 6)):
            self.check(((store("x"), load("y")), rows), ("lanes", room), wanted)

    def test_what_the_late_load_must_see(self):
        # The store to y ahead of the pair must be in memory before the load of y is of use.
        rows = (store("y"), store("x"), load("y"))
        self.check_all((rows, (("swap", "y"), load("x"))), 6, 6)
        # With lines all that is ahead of it, too.
        rows = (store("z"), store("y"), store("x"), load("y"))
        self.check((rows, (("swap", "y"), load("x"))), LINE, 8)
        self.check((rows, (("swap", "y"), load("x"))), LANES, 7)

    def test_loads_of_ones_own_waiting_store(self):
        rows = (store("x"), load("x"), load("y"))
        self.check_all((rows, (store("y"), load("y"), load("x"))), 6, 6)
        # The other thread's load of x, which is the last one, must not read its own store that waits.
        self.check_all((TWO[0], (store("y"), store("x"), FENCE, load("x"))), 6, 5)
        # The second thread's ring comes to its store of y, whatever its load of y reads.
        self.check_all((TWO[0], (store("y"),), (store("y"), load("y"), load("x"))), 5, 5)

    def test_a_first_access_behind_other_stores(self):
        # Here the ring comes to the store of z, and the load of z may read it while it waits.
        program = ((store("x"), load("y")), (("swap", "y"), ("swap", "z")), (store("a"), store("z"), load("z"), load("x")))
        for buffers in BUFFERS:
            self.check(program, buffers, 9 if buffers == ("line", 1) else 8)
        program = (
            (store("x"), load("y")),
            (store("y"), store("w")),
            (store("a"), store("w"), FENCE, load("a"), load("w"), load("x")),
        )
        self.check_all(program, 14, 13)

    def test_few_steps_before_few_threads(self):
        # The ring through one thread needs more steps than the one through two.
        program = (
            (store("x"), load("y")),
            (store("y"),) + (load("z"),) * 5 + (load("x"),),
            (("swap", "y"), ("swap", "z")),
            (load("z"), load("x")),
        )
        self.check_all(program, 6, 6)

    def test_the_first_of_several_places(self):
        program = ((load("x"), store("x"), load("y"), store("x"), load("y")), (load("y"), store("y"), load("x"), load("x")))
        self.check_all(program, 6, 6)

    def test_each_thread_once(self):
        program = (
            (store("x"), load("y")),
            (load("z"), load("x"), store("y")),
            (load("y"), store("z")),
        )
        self.check(program, LINE, None)
        program = (
            (store("x"), load("y")),
            (load("z"), load("x"), store("y"), store("z")),
            (store("y"), store("z")),
        )
        # 2 steps, then two stores and the flush of the one that is read, then two loads.
        self.check(program, LANES, 7)
        self.check(program, LINE, 8)


class AgainstSearches(unittest.TestCase):
    def test_all_runs(self):
        torn = 0
        for program in SMALL + (BACK,) + tuple(random_programs(40, 10, 7)):
            for buffers in BUFFERS_HERE:
                wanted = fewest_by_runs(program, buffers)
                Fewest.check(self, program, buffers, wanted)
                torn += wanted is not None
        self.assertGreater(torn, 30)

    def test_two_threads_of_stores_and_loads(self):
        rows = [(store("x"), load("y")), (store("x"), store("y"), load("y")), (store("z"), store("x"), load("z"), load("y")),
                (store("x"), load("x"), store("z"), load("y")), (store("x"), ("swap", "z"), load("y"))]
        turned = [tuple((row[0], {"x": "y", "y": "x", "z": "z"}[row[1]]) for row in one) for one in rows]
        for one in rows:
            for other in turned:
                for buffers in BUFFERS_HERE:
                    Fewest.check(self, (one, other), buffers, fewest_by_runs((one, other), buffers))

    def test_rings_of_greater_programs(self):
        torn = 0
        for program in random_programs(60, 11, 14):
            for buffers in BUFFERS_HERE:
                wanted = fewest_by_rings(program, buffers)
                Fewest.check(self, program, buffers, wanted)
                torn += wanted is not None
        self.assertGreater(torn, 60)

    def test_the_searches_agree(self):
        for program in (OWN, FENCED, FULL, BACK, THREE):
            for buffers in BUFFERS_HERE:
                self.assertEqual(fewest_by_runs(program, buffers), fewest_by_rings(program, buffers))


class ShowsTearing(unittest.TestCase):
    def test_all_runs(self):
        for program in (TWO, MESSAGE, THREE):
            for buffers in (LINE, LANES):
                for run, model in situations(program, buffers):
                    self.assertIs(has_ring(model_facts(model)), shows_tearing(program, buffers, run))

    def test_longer_and_cut(self):
        for buffers in BUFFERS:
            whole = completed(TWO, buffers, TORN)
            for many in range(len(whole) + 1):
                self.assertIs(many >= 4, shows_tearing(TWO, buffers, whole[:many]))
        run = tearing_run(MESSAGE, LANES)
        for many in range(len(run)):
            self.assertIs(False, shows_tearing(MESSAGE, LANES, run[:many]))
        self.assertIs(False, shows_tearing(MESSAGE, LINE, run))

    def test_runs_that_are_not_torn(self):
        for program in SMALL:
            for buffers in BUFFERS:
                self.assertIs(False, shows_tearing(program, buffers, completed(program, buffers, ())))
                self.assertIs(False, shows_tearing(program, buffers, ()))

    def test_steps_that_are_not_possible(self):
        run = TORN + (("flush", 0, "x"), ("flush", 1, "y"))
        self.assertIs(True, shows_tearing(TWO, LINE, run))
        for value in (run + run[-1:], run + (("do", 0),), TORN + TORN[:1], run[4:] + run[:4], run[::-1], TORN[1:],
                      TORN + (("flush", 0, "y"),), TORN + (None,), TORN + ("do",), TORN + (("do", 2),), (TORN,),
                      TORN + ((),), TORN[:2] + (("do", True), ("do", True)), TORN[:3]):
            self.assertIs(False, shows_tearing(TWO, LINE, value), value)

    def test_lists_and_near_values(self):
        for value in listed(TORN):
            self.assertIs(False, shows_tearing(TWO, LINE, value), value)
        for value in varied(TORN):
            wanted = type(value) is tuple and is_run(TWO, LINE, value) and len(value) >= 4
            self.assertIs(wanted, shows_tearing(TWO, LINE, value), value)

    def test_any_value(self):
        for value in values():
            before = repr(value)
            self.assertIs(False, shows_tearing(TWO, LINE, value), value)
            self.assertIs(False, shows_tearing(TWO, LINE, TORN + (value,)), value)
            self.assertIs(False, shows_tearing(TWO, LINE, (value,) + TORN), value)
            self.assertIs(before == "1", shows_tearing(TWO, LINE, START + (("do", value),)), value)
            self.assertIs(False, shows_tearing(EMPTY, LINE, value), value)
            self.assertEqual(before, repr(value))
