"""What stories and facts share: the accesses of a run, the pairs between them, and rings of pairs."""

from ringfences.programs import instruction_at, is_integer, loads, variables_of
from ringfences.runs import walk
from ringfences.steps import source_of, start


def is_place(value):
    """Whether any value has the form of a place; a program need not have it."""
    return isinstance(value, tuple) and len(value) == 2 and is_integer(value[0]) and is_integer(value[1])


def traced(program, buffers, run):
    """What each load and swap of a run read, by its place, and what came to memory, by its variable."""
    variables = variables_of(program)
    sources = {}
    orders = {variable: [] for variable in variables}
    state = start(program)
    for step, later in walk(program, buffers, run):
        if step[0] == "do":
            place = (step[1], state[0][step[1]])
            if loads(instruction_at(program, place)):
                sources[place] = source_of(program, state, place)
        for variable, old, new in zip(variables, state[2], later[2]):
            # No place comes to memory twice, so that whatever comes there is another place.
            if new != old:
                orders[variable].append(new)
        state = later
    return (sources, orders)


def related(program, places, sources, orders, waiting):
    """The ascending pairs between accesses that were done, by point [8]; without waiting stores by point [7].

    places are these accesses, sources tells what the loads and swaps among them read, orders and
    waiting list for each variable what is in memory and what still waits.
    """
    pairs = [(p, q) for p in places for q in places if p[0] == q[0] and p[1] < q[1]]
    for order in list(orders.values()):
        for place in order:
            variable = instruction_at(program, place)[1]
            pairs.extend([(place, q) for q in behind(place, orders[variable], waiting[variable])])
    for place, source in sources.items():
        variable = instruction_at(program, place)[1]
        if source is not None:
            pairs.append((source, place))
        for q in behind(source, orders[variable], waiting[variable]):
            if q != place:
                pairs.append((place, q))
    return tuple(sorted(set(pairs)))


def behind(source, order, waiting):
    """The stores and swaps of a variable that came to memory behind a source, or still wait."""
    if source is None:
        return order + waiting
    if source not in order:
        # Which stores will come behind one that still waits is not settled.
        return []
    return order[order.index(source) + 1:] + waiting


def ring_among(pairs):
    """A ring of pairs, None if there is none."""
    left = on_rings(pairs)
    if not left:
        return None
    trail = []
    place = min(list(left))
    # Each place that is left has another one ahead of it, so that the way back meets itself.
    while place not in trail:
        trail.append(place)
        place = left[place]
    ring = trail[trail.index(place):]
    return tuple(ring[::-1])


def on_rings(pairs):
    """The places behind a ring or on one, each with such a place directly ahead of it."""
    ahead = {q: [] for pair in pairs for q in pair}
    following = {p: [] for pair in pairs for p in pair}
    for p, q in pairs:
        ahead[q].append(p)
        following[p].append(q)
    missing = {place: len(ahead[place]) for place in ahead}
    free = [place for place in missing if missing[place] == 0]
    while free:
        place = free.pop()
        for later in following[place]:
            missing[later] -= 1
            if missing[later] == 0:
                free.append(later)
    left = [place for place in missing if missing[place] > 0]
    return {place: [other for other in ahead[place] if missing[other] > 0][0] for place in left}


def is_ring_among(pairs, value):
    """Whether any value is a ring of pairs."""
    if not isinstance(value, tuple) or len(value) < 2:
        return False
    if not all([is_place(place) for place in value]) or len(set(value)) < len(value):
        return False
    known = {pair: True for pair in pairs}
    # The place ahead of the first one is the last one.
    return all([(value[at - 1], value[at]) in known for at in range(len(value))])
