"""Torn runs with the fewest steps."""

from ringfences.facts import is_torn
from ringfences.pairs import live_rings, visits_of
from ringfences.runs import is_run


def fewest_steps(program, buffers):
    """The least number of steps of a torn run, None if the program is faithful."""
    run = tearing_run(program, buffers)
    if run is None:
        return None
    return len(run)


def tearing_run(program, buffers):
    """A torn run with the fewest steps, None if the program is faithful."""
    # A thread can make its steps whatever the others did. So a ring needs from
    # each of its threads no more than one visit, and the visits can be made one
    # after the other: first that of the live pair, whose early store still waits
    # at the end, then those of the ring for it.
    weights = {visit: len(visit_steps(program, buffers, visit)) for visit in visits_of(program)}
    rings = live_rings(program, buffers, weights)
    choices = [(weights[pair] + rings[pair][0], (pair,) + rings[pair][1]) for pair in rings]
    if not choices:
        return None
    visits = min(choices)[1]
    return tuple([step for visit in visits for step in visit_steps(program, buffers, visit)])


def shows_tearing(program, buffers, value):
    """Whether any value is a run that is torn."""
    return is_run(program, buffers, value) and is_torn(program, buffers, value)


def visit_steps(program, buffers, visit):
    """The fewest steps of a thread with which a ring can come to first and go on from last."""
    # That the ring comes to first needs no flush. If first is a load that reads a
    # waiting store of its own thread, the ring comes to that store as well.
    thread, _, last = visit
    instructions = program[thread][:last + 1]
    flushed = flushed_stores(instructions, buffers)
    steps = []
    for at, instruction in enumerate(instructions):
        steps.append(("do", thread))
        # A store that must come to memory hinders nothing if it comes there at once.
        if at in flushed:
            steps.append(("flush", thread, instruction[1]))
    return steps


def flushed_stores(instructions, buffers):
    """The stores that are flushed until a ring can go on from the last instruction: the first ones of each queue."""
    word, room = buffers
    needed = needed_stores(instructions)
    queues = {}
    for at, instruction in enumerate(instructions):
        if instruction[0] == "store":
            name = word
            if word == "lanes":
                name = instruction[1]
            queues.setdefault(name, []).append(at)
    flushed = []
    for queue in list(queues.values()):
        many = max([len(queue) - room] + [number + 1 for number, at in enumerate(queue) if at in needed])
        flushed.extend(queue[:max(0, many)])
    return flushed


def needed_stores(instructions):
    """The stores that must be in memory so that all instructions can be done and a ring can go on from the last."""
    needed = []
    # The last store must be in memory, and so must be the one that the last load read.
    last = ("store", instructions[-1][1])
    for at, instruction in enumerate(instructions):
        if instruction[0] in ("fence", "swap"):
            needed.extend(list(range(at)))
        if instruction == last:
            needed.append(at)
    return needed
