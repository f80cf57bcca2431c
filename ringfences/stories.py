"""Stories: what complete runs read, and the orders in which stores came to memory."""

from ringfences.errors import Incomplete
from ringfences.programs import accesses, instruction_at, is_integer, loads, variables_of, writes
from ringfences.relations import is_place, is_ring_among, related, ring_among, traced
from ringfences.runs import is_complete

# In a plain run at most one store waits, so that the smallest buffers do.
PLAIN_BUFFERS = ("line", 1)


def story_of(program, buffers, run):
    """The story of a complete run."""
    if not is_complete(program, buffers, run):
        raise Incomplete()
    sources, orders = traced(program, buffers, run)
    reads = [(place, sources[place]) for place in sorted(list(sources))]
    return (tuple(reads), tuple([(variable, tuple(orders[variable])) for variable in orders]))


def is_story(program, value):
    """Whether any value is a story of a program."""
    if not isinstance(value, tuple) or len(value) != 2:
        return False
    return are_reads(program, value[0]) and are_orders(program, value[1])


def plain_order(program, story):
    """Numbers of threads, one for each instruction, whose plain run has a story; None if there are none."""
    ahead = {}
    for p, q in relations(program, story):
        ahead.setdefault(q, []).append(p)
    done = [0] * len(program)
    order = []
    thread = next_thread(program, ahead, done)
    while thread is not None:
        order.append(thread)
        done[thread] += 1
        thread = next_thread(program, ahead, done)
    if len(order) < sum([len(instructions) for instructions in program]):
        return None
    return tuple(order)


def shows_plain(program, story, value):
    """Whether any value is numbers of threads, one for each instruction, whose plain run has a story."""
    if not isinstance(value, tuple) or not all([is_integer(thread) for thread in value]):
        return False
    if len(value) != sum([len(instructions) for instructions in program]):
        return False
    if any([value.count(thread) != len(program[thread]) for thread in range(len(program))]):
        return False
    return story_of(program, PLAIN_BUFFERS, plain_run(program, value)) == story


def story_ring(program, story):
    """A ring of relations of a story, None if there is none."""
    return ring_among(relations(program, story))


def shows_story_ring(program, story, value):
    """Whether any value is a ring of relations of a story."""
    return is_ring_among(relations(program, story), value)


def relations(program, story):
    """The relations of a story, ascending."""
    reads, orders = story
    sources = {place: source for place, source in reads}
    columns = {variable: list(places) for variable, places in orders}
    nothing = {variable: [] for variable in columns}
    return related(program, accesses(program), sources, columns, nothing)


def next_thread(program, ahead, done):
    """A thread whose next instruction has nothing left ahead of it, None if there is none."""
    for thread, instructions in enumerate(program):
        if done[thread] < len(instructions):
            places = ahead.get((thread, done[thread]), [])
            if all([at < done[other] for other, at in places]):
                return thread
    return None


def plain_run(program, threads):
    """The plain run that does the next instruction of each of these threads in turn."""
    done = [0] * len(program)
    steps = []
    for thread in threads:
        instruction = program[thread][done[thread]]
        done[thread] += 1
        steps.append(("do", thread))
        if instruction[0] == "store":
            steps.append(("flush", thread, instruction[1]))
    return tuple(steps)


def are_reads(program, value):
    """Whether any value can be the reads of a story."""
    readers = [place for place in accesses(program) if loads(instruction_at(program, place))]
    if not isinstance(value, tuple) or len(value) != len(readers):
        return False
    return all([is_read(program, place, pair) for place, pair in zip(readers, value)])


def is_read(program, place, value):
    """Whether any value is the place of a load or swap and something that it can read in a story."""
    if not isinstance(value, tuple) or len(value) != 2:
        return False
    if not is_place(value[0]) or value[0] != place:
        return False
    source = value[1]
    if source is None:
        return True
    if not is_place(source) or source == place:
        return False
    return source in writers_of(program, instruction_at(program, place)[1])


def are_orders(program, value):
    """Whether any value can be the orders of a story."""
    variables = variables_of(program)
    if not isinstance(value, tuple) or len(value) != len(variables):
        return False
    return all([is_order(program, variable, pair) for variable, pair in zip(variables, value)])


def is_order(program, variable, value):
    """Whether any value is a variable and all places of its stores and swaps, each once."""
    if not isinstance(value, tuple) or len(value) != 2 or value[0] != variable:
        return False
    places = value[1]
    if not isinstance(places, tuple) or not all([is_place(place) for place in places]):
        return False
    return sorted(places) == writers_of(program, variable)


def writers_of(program, variable):
    """The places of all stores and swaps of a variable, ascending."""
    rows = [(place, instruction_at(program, place)) for place in accesses(program)]
    return [place for place, row in rows if writes(row) and row[1] == variable]
