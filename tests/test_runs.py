"""Runs: whether they are any, their states, and how they end."""

import copy
import inspect
import unittest

from ringfences.runs import completed, is_complete, is_plain, is_run, states_of, walk
from ringfences.steps import after, start
from tests.helper import BUFFERS, EMPTY, GREATEST, LANES, LINE, MESSAGE, MIXED, SAME, SEVERAL, THREE, TWO
from tests.helper import Model, is_all_tuples, listed, some_runs, values, varied

RUN = (("do", 0), ("do", 0), ("do", 1), ("do", 1), ("flush", 0, "x"), ("flush", 1, "y"))
PLAIN = (("do", 0), ("flush", 0, "x"), ("do", 0), ("do", 1), ("flush", 1, "y"), ("do", 1))


def plain_run(program):
    """The plain run that does one thread after the other."""
    steps = []
    for thread, rows in enumerate(program):
        for row in rows:
            steps.append(("do", thread))
            if row[0] == "store":
                steps.append(("flush", thread, row[1]))
    return tuple(steps)


def is_model_run(program, buffers, value):
    """Whether a value whose steps are tuples of words and numbers is a run."""
    if type(value) is not tuple:
        return False
    model = Model(program, buffers)
    for step in value:
        if type(step) is not tuple or [type(part) for part in step] not in ([str, int], [str, int, str]):
            return False
        if step[0] != ("do", "flush")[len(step) - 2] or model.make(step) is not None:
            return False
    return True


class IsRun(unittest.TestCase):
    def test_runs(self):
        for program in SEVERAL:
            for buffers in BUFFERS:
                for run in some_runs(program, buffers, 40):
                    self.assertIs(True, is_run(program, buffers, run))

    def test_empty(self):
        for buffers in BUFFERS:
            self.assertIs(True, is_run(TWO, buffers, ()))
            self.assertIs(True, is_run(EMPTY, buffers, ()))
            self.assertIs(False, is_run(TWO, buffers, []))
            self.assertIs(False, is_run(EMPTY, buffers, (("do", 0),)))

    def test_near_runs(self):
        many = {True: 0, False: 0}
        for program, run in ((TWO, RUN), (TWO, PLAIN), (MIXED, plain_run(MIXED)), (SAME, plain_run(SAME))):
            for buffers in BUFFERS:
                for value in varied(run):
                    wanted = is_model_run(program, buffers, value)
                    self.assertIs(wanted, is_run(program, buffers, value), value)
                    many[wanted] += 1
        self.assertGreater(many[True], 100)
        self.assertGreater(many[False], 1000)

    def test_lists(self):
        for value in listed(RUN):
            self.assertIs(False, is_run(TWO, LINE, value))

    def test_only_the_last_step_is_wrong(self):
        for step in (("do", 0), ("do", 2), ("flush", 0, "x"), ("flush", 2, "x"), ("flush", 0, "X"), None, (), "do"):
            self.assertIs(True, is_run(TWO, LINE, RUN))
            self.assertIs(False, is_run(TWO, LINE, RUN + (step,)))

    def test_booleans(self):
        self.assertIs(False, is_run(TWO, LINE, (("do", False),)))
        self.assertIs(False, is_run(TWO, LINE, (("do", 1), ("flush", True, "y"))))

    def test_other_buffers(self):
        late = (("do", 0), ("do", 0), ("flush", 0, "y"))
        for room in (1, 2, 16):
            self.assertIs(False, is_run(MESSAGE, ("line", room), late))
            self.assertIs(True, is_run(MESSAGE, ("lanes", room), late))
        twice = (("do", 0), ("do", 0))
        wanted = {("line", 1): False, ("line", 2): True, ("lanes", 1): False, ("lanes", 2): True}
        for buffers in wanted:
            self.assertIs(wanted[buffers], is_run(SAME, buffers, twice))
        self.assertIs(False, is_run(MESSAGE, ("line", 1), twice))
        self.assertIs(True, is_run(MESSAGE, ("lanes", 1), twice))

    def test_other_programs(self):
        self.assertIs(False, is_run(MESSAGE, LINE, RUN))
        self.assertIs(False, is_run(EMPTY, LINE, RUN))
        self.assertIs(False, is_run(THREE, LINE, RUN))

    def test_any_value(self):
        for value in values():
            before = repr(value)
            for program in (TWO, EMPTY):
                self.assertIs(value == () and type(value) is tuple, is_run(program, LINE, value), value)
                self.assertIs(False, is_run(program, LANES, (value,)))
                self.assertIs(False, is_run(program, LANES, (("do", 0), value)))
            self.assertEqual(before, repr(value))


class States(unittest.TestCase):
    def test_states(self):
        wanted = (
            ((0, 0), ((), ()), (None, None)),
            ((1, 0), ((0,), ()), (None, None)),
            ((2, 0), ((0,), ()), (None, None)),
            ((2, 1), ((0,), (0,)), (None, None)),
            ((2, 2), ((0,), (0,)), (None, None)),
            ((2, 2), ((), (0,)), ((0, 0), None)),
            ((2, 2), ((), ()), ((0, 0), (1, 0))),
        )
        for many in range(7):
            self.assertEqual(wanted[:many + 1], states_of(TWO, LINE, RUN[:many]))
            self.assertEqual(list(zip(RUN[:many], wanted[1:])), list(walk(TWO, LINE, RUN[:many])))

    def test_empty(self):
        for program in SEVERAL:
            self.assertEqual((start(program),), states_of(program, LINE, ()))
            self.assertEqual([], list(walk(program, LINE, ())))

    def test_as_the_model(self):
        for program in SEVERAL:
            for buffers in BUFFERS:
                for run in some_runs(program, buffers, 40):
                    wanted = tuple(Model(program, buffers, run[:many]).state() for many in range(len(run) + 1))
                    self.assertEqual(wanted, states_of(program, buffers, run))
                    self.assertEqual(list(zip(run, wanted[1:])), list(walk(program, buffers, run)))
                    self.assertTrue(is_all_tuples(states_of(program, buffers, run)))

    def test_walk_is_a_generator(self):
        self.assertTrue(inspect.isgenerator(walk(TWO, LINE, RUN)))
        for pair in walk(TWO, LINE, RUN):
            self.assertIs(tuple, type(pair))
            self.assertTrue(is_all_tuples(pair))

    def test_walk_left_after_its_first_pair(self):
        first = (("do", 0), ((1, 0), ((0,), ()), (None, None)))
        left = walk(TWO, LINE, RUN)
        self.assertEqual(first, next(left))
        for pair in walk(TWO, LINE, RUN):
            self.assertEqual(first, pair)
            break
        self.assertEqual(6, len(list(walk(TWO, LINE, RUN))))
        self.assertEqual(("do", 0), next(left)[0])
        left.close()
        self.assertEqual(7, len(states_of(TWO, LINE, RUN)))

    def test_two_walks_beside_each_other(self):
        for one, other in zip(walk(TWO, LINE, RUN), walk(TWO, LINE, RUN)):
            self.assertEqual(one, other)


class IsComplete(unittest.TestCase):
    def test_complete(self):
        for buffers in BUFFERS:
            self.assertIs(True, is_complete(TWO, buffers, RUN))
            self.assertIs(True, is_complete(TWO, buffers, PLAIN))
            for run in (RUN, PLAIN):
                for many in range(len(run)):
                    self.assertIs(False, is_complete(TWO, buffers, run[:many]))

    def test_nothing_waits_but_not_all_is_done(self):
        self.assertIs(False, is_complete(TWO, LINE, PLAIN[:-1]))
        self.assertIs(False, is_complete(((), (("fence",),)), LINE, ()))

    def test_all_is_done_but_a_store_waits(self):
        self.assertIs(False, is_complete(TWO, LINE, RUN[:-1]))
        self.assertIs(False, is_complete(((("store", "x"),),), LINE, (("do", 0),)))

    def test_no_instructions(self):
        for program in (((),), EMPTY, ((),) * 6):
            for buffers in BUFFERS:
                self.assertIs(True, is_complete(program, buffers, ()))
        self.assertIs(False, is_complete(TWO, LINE, ()))

    def test_as_the_model(self):
        for program in SEVERAL:
            for buffers in BUFFERS:
                for run in some_runs(program, buffers, 60):
                    done, waiting, _ = Model(program, buffers, run).state()
                    wanted = done == tuple(map(len, program)) and waiting == ((),) * len(program)
                    self.assertIs(wanted, is_complete(program, buffers, run))


class IsPlain(unittest.TestCase):
    def test_plain(self):
        for program in SEVERAL + (GREATEST,):
            for buffers in BUFFERS:
                self.assertIs(True, is_plain(program, buffers, plain_run(program)))
                self.assertIs(True, is_plain(program, buffers, ()))
        self.assertIs(True, is_plain(TWO, LINE, PLAIN))

    def test_plain_on_the_way(self):
        for many in range(len(PLAIN) + 1):
            # A run that ends with a store has no step behind it that flushes it.
            self.assertIs(many not in (1, 4), is_plain(TWO, LINE, PLAIN[:many]), many)

    def test_not_plain(self):
        self.assertIs(False, is_plain(TWO, LINE, RUN))
        later = (("do", 0), ("do", 0), ("flush", 0, "x"), ("do", 1), ("flush", 1, "y"), ("do", 1))
        self.assertIs(False, is_plain(TWO, LINE, later))
        last = (("do", 0), ("flush", 0, "x"), ("do", 0), ("do", 1), ("do", 1), ("flush", 1, "y"))
        self.assertIs(False, is_plain(TWO, LINE, last))

    def test_another_flush_follows(self):
        same = ((("store", "x"),), (("store", "x"),))
        run = (("do", 0), ("do", 1), ("flush", 1, "x"), ("flush", 0, "x"))
        self.assertIs(False, is_plain(same, LINE, run))
        self.assertIs(False, is_plain(same, LINE, (("do", 0), ("do", 1), ("flush", 0, "x"), ("flush", 1, "x"))))
        twice = ((("store", "x"), ("store", "x")),)
        self.assertIs(False, is_plain(twice, LINE, (("do", 0), ("do", 0), ("flush", 0, "x"), ("flush", 0, "x"))))
        both = ((("store", "x"), ("store", "y")),)
        self.assertIs(False, is_plain(both, LANES, (("do", 0), ("do", 0), ("flush", 0, "y"), ("flush", 0, "x"))))

    def test_swaps_loads_and_fences_need_no_flush(self):
        program = ((("swap", "x"), ("load", "x"), ("fence",), ("swap", "x")),)
        for many in range(5):
            self.assertIs(True, is_plain(program, LINE, (("do", 0),) * many))

    def test_as_the_model(self):
        for program in SEVERAL:
            for buffers in BUFFERS:
                for run in some_runs(program, buffers, 60):
                    self.assertIs(model_plain(program, buffers, run), is_plain(program, buffers, run), run)


def model_plain(program, buffers, run):
    """Nothing may wait but the store that the step ahead did."""
    for many in range(1, len(run) + 1):
        waiting = sum(Model(program, buffers, run[:many]).state()[1], ())
        ahead = Model(program, buffers, run[:many - 1])
        if waiting and (many == len(run) or any(ahead.state()[1])):
            return False
    return True


class Completed(unittest.TestCase):
    def check(self, program, buffers, run):
        whole = completed(program, buffers, run)
        self.assertTrue(is_all_tuples(whole))
        self.assertEqual(run, whole[:len(run)])
        self.assertIs(True, is_run(program, buffers, whole))
        self.assertIs(True, is_complete(program, buffers, whole))
        stores = sum(row[0] == "store" for thread in program for row in thread)
        self.assertEqual(sum(map(len, program)) + stores, len(whole))

    def test_on_the_way(self):
        for program in SEVERAL:
            for buffers in BUFFERS:
                for run in some_runs(program, buffers, 60):
                    self.check(program, buffers, run)

    def test_complete_runs_stay(self):
        for buffers in BUFFERS:
            for run in (RUN, PLAIN):
                self.assertEqual(run, completed(TWO, buffers, run))
            self.assertEqual((), completed(EMPTY, buffers, ()))

    def test_at_the_bounds(self):
        fences = ((("fence",),) * 16,) * 6
        swaps = ((("swap", "x"), ("store", "x")) * 8,) * 6
        for program in (GREATEST, fences, swaps):
            for buffers in BUFFERS:
                self.check(program, buffers, ())
        self.assertEqual(192, len(completed(GREATEST, LINE, ())))

    def test_full_queues_at_the_bounds(self):
        run = tuple(("do", thread) for thread in range(6) for _ in range(16))
        for buffers in (("line", 16), ("lanes", 3), ("lanes", 16)):
            self.assertIs(True, is_run(GREATEST, buffers, run))
            self.assertIs(False, is_complete(GREATEST, buffers, run))
            self.assertIs(False, is_plain(GREATEST, buffers, run))
            self.assertEqual(97, len(states_of(GREATEST, buffers, run)))
            self.check(GREATEST, buffers, run)
        for buffers in (("line", 15), ("lanes", 2), ("line", 1)):
            self.assertIs(False, is_run(GREATEST, buffers, run))


class Conventions(unittest.TestCase):
    def test_by_name(self):
        self.assertIs(True, is_run(value=RUN, buffers=LINE, program=TWO))
        for function in (states_of, is_complete, is_plain, completed):
            self.assertEqual(function(TWO, LINE, RUN), function(run=RUN, buffers=LINE, program=TWO))
        self.assertEqual(list(walk(TWO, LINE, RUN)), list(walk(run=RUN, buffers=LINE, program=TWO)))

    def test_equal_calls(self):
        for function in (is_run, states_of, is_complete, is_plain, completed):
            for run in some_runs(MIXED, LANES, 20):
                self.assertEqual(function(MIXED, LANES, run), function(*copy.deepcopy((MIXED, LANES, run))))

    def test_returned_values_may_be_passed_back(self):
        whole = completed(MIXED, LANES, ())
        self.assertEqual(whole, completed(MIXED, LANES, whole))
        state = start(MIXED)
        for step, wanted in walk(MIXED, LANES, whole):
            state = after(MIXED, LANES, state, step)
            self.assertEqual(wanted, state)
