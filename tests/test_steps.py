"""States, and the steps between them."""

import copy
import unittest

from ringfences.errors import BadStep, Blocked, FenceError, Finished, Full, NoThread, NotOldest, NothingWaits
from ringfences.steps import after, is_step, possible, start
from tests.helper import BUFFERS, EMPTY, GREATEST, LANES, LINE, MESSAGE, MIXED, SAME, SEVERAL, TWO
from tests.helper import Model, candidates, is_all_tuples, listed, some_runs, values, varied


def led(program, buffers, *steps):
    state = start(program)
    for step in steps:
        state = after(program, buffers, state, step)
    return state


def do(thread):
    return ("do", thread)


def flush(thread, variable):
    return ("flush", thread, variable)


class IsStep(unittest.TestCase):
    def yes(self, value):
        self.assertIs(True, is_step(value), value)

    def no(self, value):
        self.assertIs(False, is_step(value), value)

    def test_threads(self):
        for thread in (0, 1, 5, 6, 7, 191, 10 ** 9, 10 ** 40):
            self.yes(do(thread))
            self.yes(flush(thread, "x"))
        for thread in (-1, -2, -10 ** 40, True, False, None, "0", "", (), (0,), [0], {0: 0}):
            self.no(do(thread))
            self.no(flush(thread, "x"))

    def test_variables(self):
        for variable in ("a", "z", "ab", "abc", "wxyz"):
            self.yes(flush(0, variable))
        for variable in ("", "abcde", "X", "aB", "x1", " ", "a ", "x\n", 0, True, None, ("x",), ["x"], {"x": 0}):
            self.no(flush(0, variable))

    def test_words(self):
        for word in ("", "Do", "DO", "flush ", "store", "undo", "d", 0, True, None, ("do",), ["do"]):
            self.no((word, 0))
            self.no((word, 0, "x"))

    def test_lengths(self):
        for value in ((), ("do",), ("flush",), ("flush", 0), ("do", 0, "x"), ("do", 0, None), ("do", 0, 0)):
            self.no(value)
        for value in (("flush", 0, "x", "x"), ("flush", 0, "x", None), ("flush", "x"), ("flush", "x", 0), (0, "do")):
            self.no(value)

    def test_lists(self):
        for step in (do(0), flush(0, "x")):
            for value in listed(step):
                self.no(value)

    def test_any_value(self):
        for value in values():
            self.no(value)
            self.assertIs(type(value) is int and value >= 0, is_step(("do", value)), value)
            self.assertIs(type(value) is int and value >= 0, is_step(("flush", value, "x")), value)
            self.assertIs(value == "do", is_step((value, 0)), value)
            self.assertIs(value == "flush", is_step((value, 0, "x")), value)
            self.assertIs(value in ("a", "x", "do", "line"), is_step(("flush", 0, value)), value)


class Start(unittest.TestCase):
    def test_start(self):
        self.assertEqual(((0, 0), ((), ()), (None, None)), start(TWO))
        self.assertEqual(((0, 0, 0), ((), (), ()), (None, None)), start(MIXED))
        self.assertEqual(((0,), ((),), ()), start(((("fence",),),)))
        self.assertEqual(((0, 0), ((), ()), ()), start(EMPTY))
        self.assertEqual(((0,) * 6, ((),) * 6, (None,) * 6), start(GREATEST))


class After(unittest.TestCase):
    def test_store_waits(self):
        for buffers in BUFFERS:
            self.assertEqual(((1, 0), ((0,), ()), (None, None)), led(TWO, buffers, do(0)))

    def test_flush(self):
        for buffers in BUFFERS:
            self.assertEqual(((1, 0), ((), ()), ((0, 0), None)), led(TWO, buffers, do(0), flush(0, "x")))
            self.assertEqual(((0, 1), ((), ()), (None, (1, 0))), led(TWO, buffers, do(1), flush(1, "y")))

    def test_load_changes_nothing_else(self):
        for buffers in BUFFERS:
            self.assertEqual(((2, 0), ((0,), ()), (None, None)), led(TWO, buffers, do(0), do(0)))
            self.assertEqual(((0, 1), ((), ()), (None, None)), led(MESSAGE, buffers, do(1)))
            own = ((("store", "x"), ("load", "x")),)
            self.assertEqual(((2,), ((0,),), (None,)), led(own, buffers, do(0), do(0)))

    def test_swap_is_in_memory_at_once(self):
        program = ((("swap", "y"), ("store", "x"), ("swap", "x")), (("swap", "y"),))
        for buffers in BUFFERS:
            self.assertEqual(((1, 0), ((), ()), (None, (0, 0))), led(program, buffers, do(0)))
            self.assertEqual(((1, 1), ((), ()), (None, (1, 0))), led(program, buffers, do(0), do(1)))
            last = led(program, buffers, do(1), do(0), do(0), flush(0, "x"), do(0))
            self.assertEqual(((3, 1), ((), ()), ((0, 2), (0, 0))), last)

    def test_fence_does_nothing_else(self):
        program = ((("fence",), ("store", "x"), ("fence",)), (("store", "x"),))
        for buffers in BUFFERS:
            self.assertEqual(((1, 0), ((), ()), (None,)), led(program, buffers, do(0)))
            # A store of another thread does not keep a fence back.
            self.assertEqual(((1, 1), ((), (0,)), (None,)), led(program, buffers, do(1), do(0)))
            last = led(program, buffers, do(0), do(0), flush(0, "x"), do(0))
            self.assertEqual(((3, 0), ((), ()), ((0, 1),)), last)

    def test_flush_takes_the_oldest_to_the_variable(self):
        state = led(SAME, LANES, do(0), do(0), do(0), flush(0, "x"))
        self.assertEqual(((3, 0), ((1, 2), ()), ((0, 0), None)), state)
        state = led(SAME, LANES, do(0), do(0), do(0), flush(0, "y"))
        self.assertEqual(((3, 0), ((0, 1), ()), (None, (0, 2))), state)
        state = led(SAME, LANES, do(0), do(0), do(0), flush(0, "y"), flush(0, "x"), flush(0, "x"))
        self.assertEqual(((3, 0), ((), ()), ((0, 1), (0, 2))), state)
        state = led(SAME, LINE, do(0), do(0), do(0), flush(0, "x"), flush(0, "x"))
        self.assertEqual(((3, 0), ((2,), ()), ((0, 1), None)), state)
        between = ((("store", "x"), ("store", "y"), ("store", "x")),)
        state = led(between, LANES, do(0), do(0), do(0), flush(0, "x"))
        self.assertEqual(((3,), ((1, 2),), ((0, 0), None)), state)
        state = led(between, LANES, do(0), do(0), do(0), flush(0, "x"), flush(0, "x"))
        self.assertEqual(((3,), ((1,),), ((0, 2), None)), state)

    def test_stays_as_it_was(self):
        for program in SEVERAL:
            for buffers in BUFFERS:
                for run in some_runs(program, buffers, 30):
                    state = led(program, buffers, *run)
                    before = copy.deepcopy((program, buffers, state))
                    for step in possible(program, buffers, state):
                        self.assertNotEqual(state, after(program, buffers, state, step))
                    self.assertEqual(before, (program, buffers, state))

    def test_by_name(self):
        state = start(program=TWO)
        self.assertIs(True, is_step(value=("do", 0)))
        self.assertEqual(led(TWO, LINE, do(0)), after(step=do(0), state=state, buffers=LINE, program=TWO))
        self.assertEqual((do(0), do(1)), possible(state=state, program=TWO, buffers=LINE))


class Errors(unittest.TestCase):
    def check(self, error, kept, program, buffers, steps, last):
        state = led(program, buffers, *steps)
        with self.assertRaises(FenceError) as held:
            after(program, buffers, state, last)
        self.assertIs(error, type(held.exception))
        self.assertEqual(kept, vars(held.exception))
        self.assertNotIn(last, possible(program, buffers, state))

    def test_bad_step(self):
        for value in values() + list(varied(do(0))) + list(varied(flush(0, "x"))):
            if not is_step(value):
                before = repr(value)
                with self.assertRaises(BadStep) as held:
                    after(TWO, LINE, start(TWO), value)
                self.assertIs(value, held.exception.step)
                self.assertEqual(before, repr(value))

    def test_bad_step_is_listed_ahead_of_all_others(self):
        for value in (flush(9, "X"), flush(9, ""), ("do", 9, "x"), ("flush", 9), ["do", 9], ("undo", 9), flush(0, "abcde")):
            self.check(BadStep, {"step": value}, TWO, LINE, (), value)
        self.check(BadStep, {"step": ("do", True)}, EMPTY, LINE, (), ("do", True))
        self.check(BadStep, {"step": ("do", -1)}, TWO, LINE, (), ("do", -1))

    def test_no_thread(self):
        for thread in (2, 3, 6, 10 ** 40):
            for buffers in BUFFERS:
                self.check(NoThread, {"thread": thread}, TWO, buffers, (), do(thread))
                self.check(NoThread, {"thread": thread}, TWO, buffers, (do(0),), flush(thread, "x"))
                self.check(NoThread, {"thread": thread}, TWO, buffers, (), flush(thread, "zz"))

    def test_finished(self):
        for buffers in BUFFERS:
            self.check(Finished, {"thread": 0}, TWO, buffers, (do(0), do(0)), do(0))
            self.check(Finished, {"thread": 1}, EMPTY, buffers, (), do(1))
            self.check(Finished, {"thread": 2}, MIXED, buffers, (), do(2))
            steps = (do(1), flush(1, "y"), do(1))
            self.check(Finished, {"thread": 1}, TWO, buffers, steps, do(1))

    def test_finished_though_the_queue_is_full(self):
        program = ((("store", "x"),),)
        for word in ("line", "lanes"):
            self.check(Finished, {"thread": 0}, program, (word, 1), (do(0),), do(0))

    def test_blocked(self):
        for last in (("fence",), ("swap", "x"), ("swap", "y")):
            program = ((("load", "y"),), (("store", "x"), last))
            for buffers in BUFFERS:
                self.check(Blocked, {"thread": 1}, program, buffers, (do(1),), do(1))
                state = led(program, buffers, do(1), flush(1, "x"), do(1))
                self.assertEqual((0, 2), state[0])

    def test_full_line(self):
        for room in (1, 2, 3, 15, 16):
            rows = tuple(("store", "x" if at & 1 else "y") for at in range(room + 1))
            self.check(Full, {"thread": 1}, ((), rows), ("line", room), (do(1),) * room, do(1))
            state = led(((), rows), ("line", room), *(do(1),) * room, flush(1, "y"), do(1))
            self.assertEqual(tuple(range(1, room + 1)), state[1][1])

    def test_full_lane(self):
        for room in (1, 2, 3, 8, 15, 16):
            rows = (("store", "y"),) + (("store", "x"),) * (room + 1)
            self.check(Full, {"thread": 0}, (rows,), ("lanes", room), (do(0),) * (room + 1), do(0))
            state = led((rows,), ("lanes", room), *(do(0),) * (room + 1), flush(0, "x"), do(0))
            self.assertEqual((0,) + tuple(range(2, room + 2)), state[1][0])
            # The store that waits to the other variable is no hindrance, and its flush no help.
            steps = (do(0),) * (room + 1) + (flush(0, "y"),)
            self.check(Full, {"thread": 0}, (rows,), ("lanes", room), steps, do(0))

    def test_room_is_for_each_thread(self):
        program = ((("store", "x"),), (("store", "x"),), (("store", "x"),))
        for word in ("line", "lanes"):
            state = led(program, (word, 1), do(0), do(1), do(2))
            self.assertEqual(((0,), (0,), (0,)), state[1])

    def test_only_stores_need_room(self):
        program = ((("store", "x"), ("load", "x"), ("load", "y")),)
        for word in ("line", "lanes"):
            self.assertEqual((3,), led(program, (word, 1), do(0), do(0), do(0))[0])

    def test_nothing_waits(self):
        for buffers in BUFFERS:
            self.check(NothingWaits, {"variable": "x"}, TWO, buffers, (), flush(0, "x"))
            self.check(NothingWaits, {"variable": "y"}, TWO, buffers, (do(0),), flush(0, "y"))
            self.check(NothingWaits, {"variable": "x"}, TWO, buffers, (do(0),), flush(1, "x"))
            self.check(NothingWaits, {"variable": "zz"}, TWO, buffers, (do(0),), flush(0, "zz"))
            self.check(NothingWaits, {"variable": "x"}, TWO, buffers, (do(0), flush(0, "x")), flush(0, "x"))

    def test_not_oldest(self):
        for room in (2, 4, 16):
            steps = (do(0), do(0))
            self.check(NotOldest, {"variable": "y"}, MESSAGE, ("line", room), steps, flush(0, "y"))
            state = led(MESSAGE, ("line", room), *steps, flush(0, "x"), flush(0, "y"))
            self.assertEqual(((0, 0), (0, 1)), state[2])
            state = led(MESSAGE, ("lanes", room), *steps, flush(0, "y"))
            self.assertEqual(((2, 0), ((0,), ()), (None, (0, 1))), state)

    def test_nothing_waits_ahead_of_not_oldest(self):
        program = ((("store", "x"), ("store", "y"), ("load", "z")),)
        self.check(NothingWaits, {"variable": "z"}, program, LINE, (do(0), do(0)), flush(0, "z"))


class Possible(unittest.TestCase):
    def test_at_the_start(self):
        for buffers in BUFFERS:
            self.assertEqual((do(0), do(1)), possible(TWO, buffers, start(TWO)))
            self.assertEqual((do(0), do(1)), possible(MIXED, buffers, start(MIXED)))
            self.assertEqual((), possible(EMPTY, buffers, start(EMPTY)))

    def test_on_the_way(self):
        state = led(MESSAGE, LINE, do(0), do(0))
        self.assertEqual((do(1), flush(0, "x")), possible(MESSAGE, LINE, state))
        state = led(MESSAGE, LANES, do(0), do(0))
        self.assertEqual((do(1), flush(0, "x"), flush(0, "y")), possible(MESSAGE, LANES, state))

    def test_ascending(self):
        program = ((("store", "z"), ("store", "b"), ("store", "ab")), (("store", "z"), ("store", "a")))
        state = led(program, LANES, do(1), do(1), do(0), do(0), do(0))
        wanted = tuple(flush(*pair) for pair in ((0, "ab"), (0, "b"), (0, "z"), (1, "a"), (1, "z")))
        self.assertEqual(wanted, possible(program, LANES, state))
        state = led(program, LINE, do(1), do(1), do(0), do(0), do(0))
        self.assertEqual((flush(0, "z"), flush(1, "z")), possible(program, LINE, state))

    def test_each_once(self):
        state = led(SAME, LANES, do(0), do(0))
        self.assertEqual((do(0), do(1), flush(0, "x")), possible(SAME, LANES, state))

    def test_full_queues(self):
        state = led(MESSAGE, ("line", 1), do(0))
        self.assertEqual((do(1), flush(0, "x")), possible(MESSAGE, ("line", 1), state))
        state = led(MESSAGE, ("lanes", 1), do(0))
        self.assertEqual((do(0), do(1), flush(0, "x")), possible(MESSAGE, ("lanes", 1), state))
        state = led(SAME, ("lanes", 1), do(0))
        self.assertEqual((do(1), flush(0, "x")), possible(SAME, ("lanes", 1), state))
        state = led(GREATEST, ("line", 16), *[do(0)] * 16)
        self.assertEqual(tuple(do(thread) for thread in range(1, 6)) + (flush(0, "a"),),
                         possible(GREATEST, ("line", 16), state))

    def test_blocked_threads(self):
        for last in (("fence",), ("swap", "x"), ("swap", "y")):
            program = ((("store", "x"), last), (("load", "y"),))
            for buffers in BUFFERS:
                state = led(program, buffers, do(0))
                self.assertEqual((do(1), flush(0, "x")), possible(program, buffers, state))
                state = led(program, buffers, do(0), flush(0, "x"))
                self.assertEqual((do(0), do(1)), possible(program, buffers, state))

    def test_at_the_end(self):
        steps = [do(0), do(0), do(1), do(1)]
        for buffers in BUFFERS:
            state = led(TWO, buffers, *steps)
            self.assertEqual((flush(0, "x"), flush(1, "y")), possible(TWO, buffers, state))
            state = led(TWO, buffers, *steps, flush(1, "y"), flush(0, "x"))
            self.assertEqual((), possible(TWO, buffers, state))


class AsTheModel(unittest.TestCase):
    """Every step in every state of small programs, against a second way to run them."""

    def check_state(self, program, buffers, run):
        state = led(program, buffers, *run)
        self.assertEqual(Model(program, buffers, run).state(), state)
        self.assertTrue(is_all_tuples(state))
        found = []
        for step in candidates(program):
            model = Model(program, buffers, run)
            wrong = model.make(step)
            if wrong is None:
                found.append(step)
                self.assertEqual(model.state(), after(program, buffers, state, step))
                continue
            with self.assertRaises(FenceError) as held:
                after(program, buffers, state, step)
            self.assertEqual(wrong, (type(held.exception).__name__, *vars(held.exception).values()))
        self.assertEqual(tuple(sorted(found)), possible(program, buffers, state))

    def test_small_programs(self):
        for program in SEVERAL:
            for buffers in BUFFERS:
                for run in some_runs(program, buffers, 150):
                    self.check_state(program, buffers, run)
