"""States of a program, and the steps that lead from one to the next."""

from ringfences.errors import BadStep, Blocked, Finished, Full, NoThread, NotOldest, NothingWaits
from ringfences.programs import is_integer, is_variable, variables_of


def is_step(value):
    """Whether any value is a step, possible or not."""
    if not isinstance(value, tuple) or len(value) < 2:
        return False
    if not is_integer(value[1]) or value[1] < 0:
        return False
    if len(value) == 2:
        return value[0] == "do"
    return len(value) == 3 and value[0] == "flush" and is_variable(value[2])


def start(program):
    """The state in which nothing was done."""
    many = len(program)
    return ((0,) * many, ((),) * many, (None,) * len(variables_of(program)))


def after(program, buffers, state, step):
    """The state after a step."""
    if not is_step(step):
        raise BadStep(step)
    thread = step[1]
    if thread >= len(program):
        raise NoThread(thread)
    if step[0] == "do":
        return after_do(program, buffers, state, thread)
    return after_flush(program, buffers, state, thread, step[2])


def possible(program, buffers, state):
    """All steps that are possible in a state, ascending."""
    threads = range(len(program))
    dos = [("do", thread) for thread in threads if can_do(program, buffers, state, thread)]
    flushes = [
        ("flush", thread, variable)
        for thread in threads
        for variable in flushable(program, buffers, state, thread)
    ]
    return tuple(dos + flushes)


def after_do(program, buffers, state, thread):
    """The state after the next instruction of a thread."""
    if is_finished(program, state, thread):
        raise Finished(thread)
    if is_blocked(program, state, thread):
        raise Blocked(thread)
    if is_full(program, buffers, state, thread):
        raise Full(thread)
    done, waiting, memory = state
    at = done[thread]
    instruction = program[thread][at]
    if instruction[0] == "store":
        waiting = replaced(waiting, thread, waiting[thread] + (at,))
    if instruction[0] == "swap":
        memory = written(program, memory, instruction[1], (thread, at))
    return (replaced(done, thread, at + 1), waiting, memory)


def after_flush(program, buffers, state, thread, variable):
    """The state after the oldest waiting store of a thread to a variable came to memory."""
    done, waiting, memory = state
    queue = waiting[thread]
    stores = stores_to(program, state, thread, variable)
    if not stores:
        raise NothingWaits(variable)
    oldest = stores[0]
    if buffers[0] == "line" and oldest != queue[0]:
        raise NotOldest(variable)
    left = tuple([at for at in queue if at != oldest])
    return (done, replaced(waiting, thread, left), written(program, memory, variable, (thread, oldest)))


def can_do(program, buffers, state, thread):
    """Whether the next instruction of a thread can be done."""
    if is_finished(program, state, thread):
        return False
    return not is_blocked(program, state, thread) and not is_full(program, buffers, state, thread)


def is_finished(program, state, thread):
    """Whether all instructions of a thread are done."""
    return state[0][thread] == len(program[thread])


def is_blocked(program, state, thread):
    """Whether the next instruction of a thread must wait until no store of the thread waits."""
    instruction = program[thread][state[0][thread]]
    return instruction[0] in ("fence", "swap") and len(state[1][thread]) > 0


def is_full(program, buffers, state, thread):
    """Whether the next instruction of a thread is a store whose queue has no room."""
    instruction = program[thread][state[0][thread]]
    if instruction[0] != "store":
        return False
    word, room = buffers
    if word == "line":
        return len(state[1][thread]) >= room
    return len(stores_to(program, state, thread, instruction[1])) >= room


def flushable(program, buffers, state, thread):
    """The variables to which a thread can flush a store, ascending."""
    variables = [program[thread][at][1] for at in state[1][thread]]
    if buffers[0] == "line":
        return variables[:1]
    return sorted(set(variables))


def stores_to(program, state, thread, variable):
    """The numbers of the waiting stores of a thread to a variable, the oldest one first."""
    return [at for at in state[1][thread] if program[thread][at][1] == variable]


def source_of(program, state, place):
    """What the load or swap at a place reads in a state: the place of a store or swap, or None."""
    thread, at = place
    variable = program[thread][at][1]
    stores = stores_to(program, state, thread, variable)
    if stores:
        return (thread, stores[-1])
    return state[2][variables_of(program).index(variable)]


def written(program, memory, variable, place):
    """The memory after the store or swap at a place wrote a variable."""
    return replaced(memory, variables_of(program).index(variable), place)


def replaced(row, at, item):
    """A tuple with another item at an index."""
    return row[:at] + (item,) + row[at + 1:]
