"""Small programs, explored completely: all stories that their runs tell."""

from ringfences.errors import TooMany
from ringfences.programs import accesses, instruction_at, loads, variables_of
from ringfences.steps import after, is_finished, possible, replaced, source_of, start
from ringfences.stories import PLAIN_BUFFERS

MOST_SITUATIONS = 20000


def story_count(program, buffers):
    """The number of different stories of complete runs of a program."""
    return len(last_situations(program, buffers, False))


def stories(program, buffers):
    """The stories of complete runs of a program, each once."""
    for situation in last_situations(program, buffers, False):
        yield told(program, situation)


def plain_count(program):
    """The number of plain stories of a program."""
    return len(last_situations(program, PLAIN_BUFFERS, True))


def last_situations(program, buffers, is_only_plain):
    """The situations of all complete runs, or of the plain ones only.

    A situation is a state; for each thread what its loads and swaps read; for each variable what
    came to memory.
    """
    first = (start(program), ((),) * len(program), ((),) * len(variables_of(program)))
    found = {first: True}
    left = [first]
    complete = []
    while left:
        situation = left.pop()
        following = following_situations(program, buffers, situation, is_only_plain)
        # Only when a run is complete no step is possible.
        if not following:
            complete.append(situation)
        for later in following:
            if later not in found:
                if len(found) == MOST_SITUATIONS:
                    raise TooMany(MOST_SITUATIONS)
                found[later] = True
                left.append(later)
    return complete


def following_situations(program, buffers, situation, is_only_plain):
    """The situations that one step leads to; or, in plain runs, one instruction."""
    if is_only_plain:
        threads = [thread for thread in range(len(program)) if not is_finished(program, situation[0], thread)]
        return [plainly_followed(program, buffers, situation, thread) for thread in threads]
    return [followed(program, buffers, situation, step) for step in possible(program, buffers, situation[0])]


def plainly_followed(program, buffers, situation, thread):
    """The situation after the next instruction of a thread, and the flush if it is a store."""
    instruction = program[thread][situation[0][0][thread]]
    later = followed(program, buffers, situation, ("do", thread))
    if instruction[0] == "store":
        later = followed(program, buffers, later, ("flush", thread, instruction[1]))
    return later


def followed(program, buffers, situation, step):
    """The situation after a step."""
    state, reads, orders = situation
    later = after(program, buffers, state, step)
    if step[0] == "do":
        thread = step[1]
        place = (thread, state[0][thread])
        if loads(instruction_at(program, place)):
            reads = replaced(reads, thread, reads[thread] + (source_of(program, state, place),))
    # No place comes to memory twice, so that whatever comes there is another place.
    if later[2] != state[2]:
        orders = tuple([
            order if old == new else order + (new,)
            for order, old, new in zip(orders, state[2], later[2])
        ])
    return (later, reads, orders)


def told(program, situation):
    """The story of the complete runs with a situation."""
    _, reads, orders = situation
    # The reads of a thread stand in the order of its loads and swaps.
    places = [place for place in accesses(program) if loads(instruction_at(program, place))]
    sources = [source for row in reads for source in row]
    return (tuple(zip(places, sources)), tuple(zip(variables_of(program), orders)))
