"""Machines, and the trials that give them back as they were."""

import random
import unittest

from ringfences.errors import BadBuffers, BadProgram, BadStep, Blocked, FenceError, Finished, Full, Incomplete
from ringfences.errors import NoMachine, NoNumber, NoThread, NotOldest, NothingToUndo, NothingWaits
from ringfences.facts import facts, is_torn
from ringfences.machine import Machine, Trial, tried
from ringfences.runs import completed, is_complete, states_of
from ringfences.steps import after, possible, start
from ringfences.stories import story_of
from tests.helper import BUFFERS, EMPTY, GREATEST, LANES, LINE, MESSAGE, MIXED, SAME, SMALL, TWO
from tests.helper import Model, candidates, is_all_tuples, listed, values, varied

RUN = (("do", 0), ("do", 0), ("do", 1), ("do", 1), ("flush", 0, "x"), ("flush", 1, "y"))


def undone(machine):
    """All steps that a machine takes back, the last one first; the machine has none left."""
    found = []
    while len(machine) > 0:
        found.append(machine.undo())
    return tuple(found)


class Checks(unittest.TestCase):
    def check(self, machine, program, buffers, steps):
        """Whether a machine answers as a new one with its steps, and as the functions."""
        steps = tuple(steps)
        self.assertEqual((program, buffers, steps), (machine.program, machine.buffers, machine.steps))
        state = states_of(program, buffers, steps)[-1]
        self.assertEqual(state, machine.state)
        self.assertEqual(len(steps), len(machine))
        self.assertEqual(list(steps), [machine[number] for number in range(len(machine))])
        self.assertEqual(possible(program, buffers, state), machine.possible())
        self.assertEqual(facts(program, buffers, steps), machine.facts())
        self.assertIs(is_torn(program, buffers, steps), machine.is_torn())
        whole = is_complete(program, buffers, steps)
        self.assertIs(whole, machine.is_complete())
        if whole:
            self.assertEqual(story_of(program, buffers, steps), machine.story())
        else:
            self.assertRaises(Incomplete, machine.story)
        for found in (machine.program, machine.buffers, machine.steps, machine.state, machine.possible(),
                      machine.facts()):
            self.assertTrue(is_all_tuples(found))
        new = Machine.replayed(program, buffers, steps)
        self.assertIs(True, machine == new)
        self.assertEqual((new.state, new.steps, len(new)), (machine.state, machine.steps, len(machine)))


class Made(Checks):
    def test_at_the_beginning(self):
        for program in SMALL + (GREATEST,):
            for buffers in BUFFERS:
                self.check(Machine(program, buffers), program, buffers, ())
                self.check(Machine(buffers=buffers, program=program), program, buffers, ())
                self.assertEqual(start(program), Machine(program, buffers).state)

    def test_no_programs(self):
        for value in values() + list(listed(TWO)) + [(), ((),) * 7, ((("store", "x"),) * 17,), ((("do", "x"),),)]:
            if repr(value) in ("((),)", "((), ())", "((('fence',),),)"):
                self.assertEqual(value, Machine(value, LINE).program)
                continue
            for buffers in (LINE, value, None):
                with self.assertRaises(BadProgram) as held:
                    Machine(value, buffers)
                self.assertEqual(["value"], list(vars(held.exception)))
                self.assertIs(value, held.exception.value)

    def test_no_buffers(self):
        near = [("line", 0), ("line", 17), ("lanes", 17), ("lines", 4), ("line", True), ["line", 4], (4, "line")]
        for value in values() + near + list(listed(LINE)):
            with self.assertRaises(BadBuffers) as held:
                Machine(TWO, value)
            self.assertEqual(["value"], list(vars(held.exception)))
            self.assertIs(value, held.exception.value)

    def test_read_only(self):
        machine = Machine.replayed(TWO, LINE, RUN)
        for name in ("program", "buffers", "state", "steps"):
            for value in (getattr(machine, name), ()):
                with self.assertRaises(AttributeError):
                    setattr(machine, name, value)
            with self.assertRaises(AttributeError):
                delattr(machine, name)
        self.check(machine, TWO, LINE, RUN)


class Replayed(Checks):
    def test_on_the_class_and_on_a_machine(self):
        other = Machine.replayed(MESSAGE, LANES, (("do", 0),))
        for many in range(len(RUN) + 1):
            for made in (Machine.replayed(TWO, LINE, RUN[:many]), other.replayed(TWO, LINE, RUN[:many]),
                         Machine.replayed(run=RUN[:many], program=TWO, buffers=LINE),
                         other.replayed(buffers=LINE, run=RUN[:many], program=TWO)):
                self.assertIs(Machine, type(made))
                self.check(made, TWO, LINE, RUN[:many])
                self.assertEqual(RUN[:many][::-1], undone(made))
        self.check(other, MESSAGE, LANES, (("do", 0),))


class Done(Checks):
    def test_every_step_in_every_state(self):
        for program in (TWO, MESSAGE, MIXED, SAME):
            for buffers in (("line", 1), LINE, ("lanes", 1)):
                for run in ((), RUN[:1], RUN[:2], RUN[:3], completed(program, buffers, ())):
                    model, machine = Model(program, buffers), Machine(program, buffers)
                    for step in run:
                        if model.make(step) is None:
                            machine.do(step)
                    for step in candidates(program):
                        self.check_step(machine, step)

    def check_step(self, machine, step):
        """Whether a step is made or refused as by after, and a refused one changes nothing."""
        program, buffers, steps, state = machine.program, machine.buffers, machine.steps, machine.state
        try:
            wanted = after(program, buffers, state, step)
        except FenceError as error:
            for act in (machine.do, machine):
                with self.assertRaises(type(error)) as held:
                    act(step)
                self.assertEqual(vars(error), vars(held.exception))
                self.check(machine, program, buffers, steps)
            return
        self.assertIsNone(machine.do(step))
        self.assertEqual(wanted, machine.state)
        self.check(machine, program, buffers, steps + (step,))
        self.assertEqual(step, machine.undo())
        self.assertEqual(wanted, machine(step))
        self.check(machine, program, buffers, steps + (step,))
        self.assertEqual(step, machine.undo())
        self.check(machine, program, buffers, steps)

    def refused(self, machine, step, error, kept):
        before = machine.steps
        for act in (machine.do, machine):
            for given, named in (((step,), {}), ((), {"step": step})):
                with self.assertRaises(error) as held:
                    act(*given, **named)
                self.assertIs(error, type(held.exception))
                self.assertEqual(kept, vars(held.exception))
        self.check(machine, machine.program, machine.buffers, before)

    def test_each_error(self):
        program = ((("store", "x"), ("store", "y"), ("fence",)), (("load", "x"),))
        machine = Machine(program, ("line", 1))
        self.refused(machine, ("do", 2), NoThread, {"thread": 2})
        self.refused(machine, ("flush", 7, "x"), NoThread, {"thread": 7})
        self.refused(machine, ("flush", 0, "x"), NothingWaits, {"variable": "x"})
        self.refused(machine, ("flush", 0, "zz"), NothingWaits, {"variable": "zz"})
        machine.do(("do", 0))
        self.refused(machine, ("do", 0), Full, {"thread": 0})
        machine = Machine.replayed(program, LINE, (("do", 0), ("do", 0)))
        self.refused(machine, ("do", 0), Blocked, {"thread": 0})
        self.refused(machine, ("flush", 0, "y"), NotOldest, {"variable": "y"})
        machine.do(("do", 1))
        self.refused(machine, ("do", 1), Finished, {"thread": 1})
        self.refused(machine, ("do", True), BadStep, {"step": ("do", True)})

    def test_any_value(self):
        machine = Machine.replayed(TWO, LINE, RUN[:3])
        for value in values() + list(listed(("flush", 0, "x"))) + list(listed(("do", 0))):
            before = repr(value)
            for act in (machine.do, machine):
                with self.assertRaises(BadStep) as held:
                    act(value)
                self.assertEqual(["step"], list(vars(held.exception)))
                self.assertIs(value, held.exception.step)
            self.assertEqual(before, repr(value))
        for value in varied(("flush", 0, "x")):
            copied = machine.copy()
            if copied.possible().count(value) and repr(value) in map(repr, copied.possible()):
                self.assertIsNone(copied.do(value))
            else:
                self.assertRaises(FenceError, copied.do, value)
        self.check(machine, TWO, LINE, RUN[:3])


class Undone(Checks):
    def test_to_the_beginning(self):
        for program in SMALL + (GREATEST,):
            for buffers in (("line", 1), LANES):
                run = completed(program, buffers, ())
                machine = Machine.replayed(program, buffers, run)
                for many in range(len(run), 0, -1):
                    self.assertEqual(run[many - 1], machine.undo())
                    if many < 4:
                        self.check(machine, program, buffers, run[:many - 1])
                for _ in range(2):
                    with self.assertRaises(NothingToUndo) as held:
                        machine.undo()
                    self.assertEqual({}, vars(held.exception))
                self.check(machine, program, buffers, ())

    def test_again_and_again(self):
        machine = Machine(TWO, LINE)
        for _ in range(300):
            machine.do(("do", 1))
            machine(("do", 0))
            self.assertEqual((("do", 0), ("do", 1)), undone(machine))
        self.check(machine, TWO, LINE, ())
        self.assertEqual(Machine(TWO, LINE), machine)

    def test_other_steps_behind_those_taken_back(self):
        machine = Machine.replayed(TWO, LINE, RUN[:4])
        machine.undo()
        machine.undo()
        machine.do(("flush", 0, "x"))
        self.check(machine, TWO, LINE, RUN[:2] + (("flush", 0, "x"),))


class Finishing(Checks):
    def test_after_drawn_steps(self):
        source = random.Random(70)
        for program in SMALL:
            for buffers in BUFFERS:
                machine = Machine(program, buffers)
                for _ in range(source.randint(0, 8)):
                    if machine.possible():
                        machine.do(source.choice(machine.possible()))
                before = machine.steps
                wanted = self.finish_by_words(program, buffers, before)
                many = machine.finish()
                self.assertIs(int, type(many))
                self.assertEqual(len(wanted) - len(before), many)
                self.check(machine, program, buffers, wanted)
                self.assertEqual(completed(program, buffers, before)[:len(before)], before)
                self.assertEqual(0, machine.finish())
                for number in range(many):
                    self.assertEqual(wanted[-1 - number], machine.undo())
                self.check(machine, program, buffers, before)

    def finish_by_words(self, program, buffers, steps):
        """The complete run of point [16], by the model."""
        model, run = Model(program, buffers, steps), list(steps)
        while not model.is_complete():
            waiting = [thread for thread in range(len(program)) if model.waiting(thread)]
            left = [thread for thread in range(len(program)) if model.done[thread] < len(program[thread])]
            if waiting:
                oldest = model.waiting(waiting[0])[0]
                step = ("flush", waiting[0], program[waiting[0]][oldest][1])
            else:
                step = ("do", left[0])
            self.assertIsNone(model.make(step))
            run.append(step)
        return tuple(run)

    def test_the_greatest(self):
        machine = Machine(GREATEST, ("line", 16))
        self.assertEqual(192, machine.finish())
        self.assertEqual(192, len(machine))
        self.assertIs(True, machine.is_complete())
        self.assertEqual(0, machine.finish())
        self.assertEqual(192, len(undone(machine)))

    def test_nothing_to_do(self):
        machine = Machine(EMPTY, LINE)
        self.assertEqual(0, machine.finish())
        self.assertIs(True, machine.is_complete())
        self.assertEqual(((), ()), machine.story())
        self.assertRaises(NothingToUndo, machine.undo)


class Numbers(Checks):
    def test_steps(self):
        machine = Machine.replayed(TWO, LINE, RUN)
        for number, step in enumerate(RUN):
            self.assertEqual(step, machine[number])
        machine.undo()
        self.assertEqual(RUN[4], machine[4])
        self.assertRaises(NoNumber, lambda: machine[5])

    def test_none(self):
        machine = Machine.replayed(TWO, LINE, RUN[:2])
        for value in [2, 3, -1, -2, 10 ** 30, True, False] + values():
            if type(value) is int and value in (0, 1):
                self.assertEqual(("do", 0), machine[value])
                continue
            with self.assertRaises(NoNumber) as held:
                machine[value]
            self.assertEqual(["number"], list(vars(held.exception)))
            self.assertIs(value, held.exception.number)
        for value in (0, -1, None):
            self.assertRaises(NoNumber, lambda: Machine(TWO, LINE)[value])
        self.check(machine, TWO, LINE, RUN[:2])


class Copied(Checks):
    def test_their_own_ways(self):
        for many in range(len(RUN)):
            machine = Machine.replayed(TWO, LINE, RUN[:many])
            other = machine.copy()
            self.assertIs(Machine, type(other))
            self.assertTrue(machine == other and machine is not other)
            other.do(RUN[many])
            self.check(machine, TWO, LINE, RUN[:many])
            self.check(other, TWO, LINE, RUN[:many + 1])
            third = other.copy()
            machine.finish()
            undone(other)
            self.check(other, TWO, LINE, ())
            self.check(third, TWO, LINE, RUN[:many + 1])
            self.assertIs(True, machine.is_complete())
            self.assertEqual(RUN[:many + 1][::-1], undone(third))


class Equal(unittest.TestCase):
    def test_programs_buffers_and_steps(self):
        machines = [
            Machine.replayed(program, buffers, run) for program in (TWO, MESSAGE, TWO[::-1])
            for buffers in (LINE, LANES, ("line", 3)) for run in ((), (("do", 0),), (("do", 1),), (("do", 0), ("do", 1)))
        ]
        for at, machine in enumerate(machines):
            for number, other in enumerate(machines):
                self.assertIs(at == number, machine == other)
                self.assertIs(at != number, machine != other)
            self.assertIs(True, machine == machine.copy())

    def test_the_same_state_by_other_steps(self):
        one, other = Machine(TWO, LINE), Machine(TWO, LINE)
        one(("do", 0))
        self.assertEqual(one(("do", 1)), other(("do", 1)) and other(("do", 0)))
        self.assertIs(False, one == other)

    def test_what_was_undone_cannot_be_told(self):
        machine = Machine.replayed(TWO, LINE, RUN)
        undone(machine)
        self.assertEqual(Machine(TWO, LINE), machine)

    def test_nothing_else(self):
        for machine in (Machine(TWO, LINE), Machine.replayed(TWO, LINE, RUN)):
            for value in values() + [machine.steps, machine.program, RUN, Trial(machine), Machine]:
                self.assertIs(False, machine == value)
                self.assertIs(True, machine != value)


class Walks(Checks):
    def test_at_every_moment(self):
        source = random.Random(71)
        for number, program in enumerate(SMALL):
            for buffers in (("line", 1), LINE, ("lanes", 1), LANES):
                machine, steps = Machine(program, buffers), []
                for _ in range(25):
                    act = source.choice(("do", "do", "do", "call", "undo", "wrong", "copy", "trial", "finish"))
                    if act in ("do", "call") and machine.possible():
                        step = source.choice(machine.possible())
                        steps.append(step)
                        found = machine.do(step) if act == "do" else machine(step)
                        self.assertEqual(None if act == "do" else machine.state, found)
                    if act == "undo" and steps:
                        self.assertEqual(steps.pop(), machine.undo())
                    if act == "wrong":
                        self.assertRaises(FenceError, machine.do, ("do", len(program)))
                    if act == "copy":
                        machine.copy().finish()
                        machine = machine.copy()
                    if act == "trial":
                        self.assertEqual(machine.copy().finish(), tried(machine, lambda one: one.finish()))
                    if act == "finish" and source.random() < 0.3:
                        many = machine.finish()
                        steps = list(completed(program, buffers, tuple(steps)))[:len(steps) + many]
                    self.check(machine, program, buffers, steps)


class Trials(Checks):
    def setUp(self):
        self.machine = Machine.replayed(TWO, LINE, RUN[:4])

    def same(self):
        """The machine is as it was, with the same steps to take back."""
        self.check(self.machine, TWO, LINE, RUN[:4])
        self.assertEqual(RUN[:4][::-1], undone(self.machine.copy()))

    def test_gives_the_machine_itself(self):
        with Trial(self.machine) as held:
            self.assertIs(self.machine, held)
        with Trial(machine=self.machine) as held:
            self.assertIs(self.machine, held)
        self.assertIs(self.machine, tried(self.machine, lambda one: one))
        self.assertIs(self.machine, tried(look=lambda one: one, machine=self.machine))
        self.same()

    def test_steps_and_finish(self):
        with Trial(self.machine) as held:
            held.do(RUN[4])
            self.assertEqual(1, held.finish())
            self.check(held, TWO, LINE, RUN)
        self.same()

    def test_steps_of_before_are_taken_back(self):
        with Trial(self.machine) as held:
            self.assertEqual(RUN[:4][::-1], undone(held))
            self.assertRaises(NothingToUndo, held.undo)
            held.do(("do", 1))
            self.check(held, TWO, LINE, (("do", 1),))
        self.same()
        with Trial(self.machine) as held:
            held.undo()
        self.same()

    def test_errors(self):
        for error in (FenceError("x"), KeyError(1), KeyboardInterrupt(), SystemExit(3)):
            with self.assertRaises(type(error)) as kept:
                with Trial(self.machine) as held:
                    undone(held)
                    held.finish()
                    raise error
            self.assertIs(error, kept.exception)
            self.same()
        with self.assertRaises(Finished):
            with Trial(self.machine) as held:
                held.undo()
                held.do(("do", 0))
        self.same()

    def test_leaving_early(self):
        for _ in range(3):
            with Trial(self.machine) as held:
                held.finish()
                continue
        self.same()

        def leaving():
            with Trial(self.machine) as one:
                return one.finish()

        self.assertEqual(2, leaving())
        self.same()

    def test_one_within_another(self):
        with Trial(self.machine) as held:
            held.undo()
            with Trial(held) as inner:
                inner.finish()
                undone(inner)
                inner.do(("do", 1))
            self.check(held, TWO, LINE, RUN[:3])
            held.undo()
            with Trial(held):
                held.finish()
            self.check(held, TWO, LINE, RUN[:2])
        self.same()

    def test_one_trial_twice(self):
        trial = Trial(self.machine)
        self.machine.undo()
        with trial as held:
            held.finish()
        self.check(self.machine, TWO, LINE, RUN[:3])
        self.machine.do(RUN[3])
        with trial as held:
            undone(held)
        self.same()
        with trial as held:
            held.undo()
            with trial as again:
                again.finish()
            self.check(held, TWO, LINE, RUN[:3])
        self.same()

    def test_copies_keep_what_was_made(self):
        with Trial(self.machine) as held:
            held.do(RUN[4])
            copied = held.copy()
        self.check(copied, TWO, LINE, RUN[:5])
        with Trial(copied) as held:
            self.machine.undo()
            held.finish()
        self.check(copied, TWO, LINE, RUN[:5])
        self.machine.do(RUN[3])
        self.same()

    def test_at_the_beginning(self):
        self.machine = Machine(TWO, LINE)
        with Trial(self.machine) as held:
            held.finish()
        self.check(self.machine, TWO, LINE, ())
        self.assertRaises(NothingToUndo, self.machine.undo)

    def test_no_machines(self):
        called = []
        for value in values() + [Trial(self.machine), Machine, self.machine.steps, TWO]:
            for act in (lambda: Trial(value), lambda: Trial(machine=value), lambda: tried(value, called.append),
                        lambda: tried(machine=value, look=called.append)):
                with self.assertRaises(NoMachine) as held:
                    act()
                self.assertEqual({}, vars(held.exception))
        self.assertEqual([], called)


class Tried(Checks):
    LOOKS = (
        lambda one: one.finish(),
        lambda one: undone(one),
        lambda one: (one.undo(), one.undo(), one.finish()),
        lambda one: one.copy().finish(),
        lambda one: (undone(one.copy()), one.finish()),
        lambda one: (one.finish(), tried(one, lambda other: undone(other)), one.undo()),
        lambda one: tried(one, lambda other: (other.undo(), tried(other, lambda third: third.finish()))),
        lambda one: one.do(RUN[4]),
        lambda one: one(RUN[4]),
        lambda one: None,
        lambda one: (one.is_torn(), one.facts(), one.steps),
    )
    WRONG = (
        (lambda one: (one.finish(), one.do(("do", 0))), Finished),
        (lambda one: (undone(one), one.undo()), NothingToUndo),
        (lambda one: (one.undo(), one[4]), NoNumber),
        (lambda one: (one.finish(), one.undo(), one.story()), Incomplete),
        (lambda one: (one.undo(), {}[one.finish()]), KeyError),
        (lambda one: tried(one, lambda other: (other.undo(), tried(other.steps, undone))), NoMachine),
    )

    def test_what_looks_return_and_leave(self):
        for look in self.LOOKS:
            machine = Machine.replayed(TWO, LINE, RUN[:4])
            wanted = look(machine.copy())
            for _ in range(2):
                self.assertEqual(wanted, tried(machine, look))
                self.check(machine, TWO, LINE, RUN[:4])
            self.assertEqual(RUN[:4][::-1], undone(machine))

    def test_what_looks_raise(self):
        for look, error in self.WRONG:
            machine = Machine.replayed(TWO, LINE, RUN[:4])
            for _ in range(2):
                self.assertRaises(error, tried, machine, look)
                self.check(machine, TWO, LINE, RUN[:4])
            self.assertEqual(RUN[:4][::-1], undone(machine))
