"""Pairs of instructions that can come out of order, and the rings through other threads that show it."""

from heapq import heappop, heappush

from ringfences.errors import NotLive
from ringfences.programs import MOST_ROOM, is_access, is_integer, meets, writes


def loose_pairs(program, buffers):
    """The loose pairs of a program, ascending."""
    return tuple([
        (thread, early, late)
        for thread, instructions in enumerate(program)
        for early in range(len(instructions))
        for late in range(early + 1, len(instructions))
        if is_loose(instructions, buffers, early, late)
    ])


def live_pairs(program, buffers):
    """The live pairs of a program, ascending."""
    return tuple(list(live_rings(program, buffers, even_weights(program))))


def ring_for(program, buffers, pair):
    """A ring for a live pair, with as few threads as possible."""
    if not is_triple(pair):
        raise NotLive(pair)
    rings = live_rings(program, buffers, even_weights(program))
    if pair not in rings:
        raise NotLive(pair)
    return rings[pair][1]


def shows_ring(program, pair, value):
    """Whether any value is a ring for a pair, loose or not."""
    if not isinstance(value, tuple) or len(value) == 0:
        return False
    if not all([is_visit_of(program, visit) for visit in value]):
        return False
    thread, early, late = pair
    others = [visit[0] for visit in value]
    if thread in others or len(set(others)) < len(others):
        return False
    ends = [(thread, late)] + [(other, last) for other, _, last in value]
    starts = [(other, first) for other, first, _ in value] + [(thread, early)]
    return all([meets(program, end, begin) for end, begin in zip(ends, starts)])


def is_faithful(program, buffers):
    """Whether the stories of all complete runs of a program are plain."""
    return len(live_pairs(program, buffers)) == 0


def least_room(program, word):
    """The least room with which a program is not faithful, None if it is faithful with the most room."""
    # Room decides nothing but which pairs are loose: one that is live with the
    # most room is live with all room that its stores need.
    pairs = live_pairs(program, (word, MOST_ROOM))
    return min([stores_kept(program[pair[0]], word, pair[1], pair[2]) for pair in pairs], default=None)


def is_loose(instructions, buffers, early, late):
    """Whether two instructions of a thread, early < late, are a loose pair."""
    word, room = buffers
    store, access = instructions[early], instructions[late]
    if store[0] != "store" or not is_access(access) or access[1] == store[1]:
        return False
    if any([row[0] in ("swap", "fence") for row in instructions[early + 1:late + 1]]):
        return False
    if word == "line" and (access[0] != "load" or ("store", access[1]) in instructions[early + 1:late]):
        return False
    return stores_kept(instructions, word, early, late) <= room


def stores_kept(instructions, word, early, late):
    """How many stores of a thread must wait in the queue of the store early until late is done."""
    stores = [row for row in instructions[early:late] if row[0] == "store"]
    if word == "line":
        return len(stores)
    return stores.count(instructions[early])


def live_rings(program, buffers, weights):
    """For each live pair, ascending: the least weight of a ring for it, and such a ring.

    A ring consists of visits (thread, first, last); weights gives each of them a number from 1.
    """
    visits = visits_by_end(program, weights)
    reached = {}
    rings = {}
    for pair in loose_pairs(program, buffers):
        thread, early, late = pair
        end = end_of(program[thread][late])
        if (thread, end) not in reached:
            reached[(thread, end)] = chains_from(visits, weights, thread, end)
        # The instruction early is a store, which every access to its variable meets.
        variable = program[thread][early][1]
        if variable in reached[(thread, end)]:
            rings[pair] = reached[(thread, end)][variable]
    return rings


def chains_from(visits, weights, thread, end):
    """For each variable: the least weight of visits to other threads that lead to it, and such visits.

    The first visit meets the end, each one the next, and the last access of the last one has the
    variable. The threads that were visited are the bits of an integer.
    """
    found = {}
    passed = {}
    queue = [(0, end, 1 << thread, ())]
    while queue:
        weight, end, threads, chain = heappop(queue)
        if chain and end[0] not in found:
            found[end[0]] = (weight, chain)
        # A way that came here before through none but these threads can do all that this one can.
        # It is not enough that it came here: a thread that it passed may be needed further on.
        if any([(earlier & threads) == earlier for earlier in passed.get(end, [])]):
            continue
        passed.setdefault(end, []).append(threads)
        for visit, behind in visits.get(end, []):
            bit = 1 << visit[0]
            if (threads & bit) == 0:
                heappush(queue, (weight + weights[visit], behind, threads | bit, chain + (visit,)))
    return found


def visits_by_end(program, weights):
    """For each end: the lightest visits whose first access meets it, each with the end of its last access."""
    lightest = {}
    for visit in weights:
        thread, first, last = visit
        behind = end_of(program[thread][last])
        for end in ends_met(program[thread][first]):
            key = (end, thread, behind)
            if key not in lightest or weights[visit] < weights[lightest[key]]:
                lightest[key] = visit
    visits = {}
    for end, thread, behind in lightest:
        visits.setdefault(end, []).append((lightest[(end, thread, behind)], behind))
    return visits


def end_of(instruction):
    """All that decides what an access meets: its variable, and whether it writes."""
    return (instruction[1], writes(instruction))


def ends_met(instruction):
    """The ends that an access meets."""
    if writes(instruction):
        return [(instruction[1], True), (instruction[1], False)]
    return [(instruction[1], True)]


def visits_of(program):
    """All tuples (thread, first, last) of a thread and the numbers of two of its accesses, first <= last."""
    return [
        (thread, first, last)
        for thread, instructions in enumerate(program)
        for last in range(len(instructions))
        for first in range(last + 1)
        if is_access(instructions[first]) and is_access(instructions[last])
    ]


def even_weights(program):
    """The weights with which a lightest ring is one with the fewest threads."""
    return {visit: 1 for visit in visits_of(program)}


def is_triple(value):
    """Whether any value is a tuple of three integers."""
    return isinstance(value, tuple) and len(value) == 3 and all([is_integer(number) for number in value])


def is_visit_of(program, value):
    """Whether any value is a thread of a program and the numbers of two of its accesses, first <= last."""
    if not is_triple(value) or not 0 <= value[0] < len(program):
        return False
    thread, first, last = value
    if not 0 <= first <= last < len(program[thread]):
        return False
    return is_access(program[thread][first]) and is_access(program[thread][last])
