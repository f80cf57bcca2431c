"""Torn runs: what is settled between the accesses of a run, whatever steps follow."""

from ringfences.programs import accesses, instruction_at, variables_of
from ringfences.relations import is_ring_among, related, ring_among, traced
from ringfences.runs import last_state


def facts(program, buffers, run):
    """All facts of a run, ascending."""
    sources, orders = traced(program, buffers, run)
    done, queues, _ = last_state(program, buffers, run)
    places = [(thread, at) for thread, at in accesses(program) if at < done[thread]]
    waiting = {variable: [] for variable in variables_of(program)}
    for thread, queue in enumerate(queues):
        for at in queue:
            waiting[instruction_at(program, (thread, at))[1]].append((thread, at))
    return related(program, places, sources, orders, waiting)


def is_torn(program, buffers, run):
    """Whether a run has a ring of facts."""
    return torn_ring(program, buffers, run) is not None


def torn_ring(program, buffers, run):
    """A ring of facts of a run, None if there is none."""
    return ring_among(facts(program, buffers, run))


def shows_torn_ring(program, buffers, run, value):
    """Whether any value is a ring of facts of a run."""
    return is_ring_among(facts(program, buffers, run), value)
