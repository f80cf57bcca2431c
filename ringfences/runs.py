"""Runs: steps of which each one is possible after the ones ahead of it."""

from ringfences.errors import FenceError
from ringfences.steps import after, start


def is_run(program, buffers, value):
    """Whether any value is a run of a program."""
    if not isinstance(value, tuple):
        return False
    try:
        last_state(program, buffers, value)
    except FenceError:
        return False
    return True


def states_of(program, buffers, run):
    """The states from the start on, one more than steps."""
    states = [start(program)]
    for pair in walk(program, buffers, run):
        states.append(pair[1])
    return tuple(states)


def walk(program, buffers, run):
    """Each step of a run and the state after it."""
    state = start(program)
    for step in run:
        state = after(program, buffers, state, step)
        yield (step, state)


def is_complete(program, buffers, run):
    """Whether a run has done all instructions and no store waits."""
    return finishing_step(program, last_state(program, buffers, run)) is None


def is_plain(program, buffers, run):
    """Whether each step that does a store is followed directly by the step that flushes it."""
    for number, (step, state) in enumerate(walk(program, buffers, run)):
        variable = stored_by(program, step, state)
        # As long as the run is plain no other store waits, so that a flush of
        # this thread and variable can flush no store but this one.
        if variable is not None and run[number + 1:number + 2] != (("flush", step[1], variable),):
            return False
    return True


def completed(program, buffers, run):
    """A complete run that begins with this one."""
    steps = list(run)
    state = last_state(program, buffers, run)
    step = finishing_step(program, state)
    while step is not None:
        steps.append(step)
        state = after(program, buffers, state, step)
        step = finishing_step(program, state)
    return tuple(steps)


def last_state(program, buffers, run):
    """The state that a run leads to."""
    return states_of(program, buffers, run)[-1]


def stored_by(program, step, state):
    """The variable of the store that a step did, where state is the one after it; None if it did none."""
    if step[0] != "do":
        return None
    thread = step[1]
    instruction = program[thread][state[0][thread] - 1]
    if instruction[0] != "store":
        return None
    return instruction[1]


def finishing_step(program, state):
    """The step that completed makes next, None if the run is complete."""
    for thread, queue in enumerate(state[1]):
        # The oldest store of a thread can be flushed with lines and with lanes.
        if queue:
            return ("flush", thread, program[thread][queue[0]][1])
    for thread, instructions in enumerate(program):
        # Nothing waits here, so that no thread is blocked and no queue is full.
        if state[0][thread] < len(instructions):
            return ("do", thread)
    return None
