"""Remedies: fences that are put in, and stores that become swaps."""

from ringfences.cutting import cheapest_cut, greatest_weights, is_cut
from ringfences.errors import TooLong
from ringfences.pairs import is_triple, live_pairs
from ringfences.programs import MOST_INSTRUCTIONS, is_integer


def is_remedies(program, value):
    """Whether any value is remedies of a program."""
    if not isinstance(value, tuple) or not all([is_remedy(program, remedy) for remedy in value]):
        return False
    return is_ascending(value)


def cuts(remedy, pair):
    """Whether a remedy cuts a pair."""
    return is_cut(remedy, pair)


def applied(program, remedies):
    """The program with the remedies."""
    threads = [thread_with(instructions, thread, remedies) for thread, instructions in enumerate(program)]
    if any([len(instructions) > MOST_INSTRUCTIONS for instructions in threads]):
        raise TooLong(MOST_INSTRUCTIONS)
    return tuple(threads)


def shows_cure(program, buffers, value):
    """Whether any value is remedies of a program that cut each live pair."""
    return is_remedies(program, value) and len(uncut(live_pairs(program, buffers), value)) == 0


def fewest(program, buffers, word):
    """As few remedies of a word as possible that cut each live pair."""
    # There is always such a cut, since each pair has a gap and begins with a store.
    return cheapest_cut(live_pairs(program, buffers), even_prices(program, word))[1]


def apart(program, buffers, word):
    """Live pairs, as many as the fewest remedies of a word, of which no such remedy cuts two."""
    # With all prices 1 no weight is greater, and no remedy cuts two pairs that have one.
    weighted = greatest_weights(live_pairs(program, buffers), even_prices(program, word))
    return tuple([pair for pair, _ in weighted])


def shows_apart(program, buffers, word, value):
    """Whether any value is an ascending tuple of live pairs of which no remedy of a word cuts two."""
    if not isinstance(value, tuple) or not all([is_triple(pair) for pair in value]):
        return False
    live = live_pairs(program, buffers)
    if not is_ascending(value) or not all([pair in live for pair in value]):
        return False
    return all([
        len([pair for pair in value if is_cut(remedy, pair)]) < 2
        for remedy in remedies_of(program, word)
    ])


def is_remedy(program, value):
    """Whether any value is a remedy of a program."""
    if not isinstance(value, tuple) or len(value) != 3:
        return False
    word, thread, at = value
    if not is_integer(thread) or not is_integer(at) or not 0 <= thread < len(program):
        return False
    instructions = program[thread]
    if word == "fence":
        return 0 <= at <= len(instructions)
    return word == "swap" and 0 <= at < len(instructions) and instructions[at][0] == "store"


def is_ascending(row):
    """Whether each item is greater than the one ahead of it."""
    return all([row[at - 1] < row[at] for at in range(1, len(row))])


def remedies_of(program, word):
    """All remedies of a word that a program has, ascending."""
    return [
        (word, thread, at)
        for thread, instructions in enumerate(program)
        for at in range(len(instructions) + 1)
        if is_remedy(program, (word, thread, at))
    ]


def even_prices(program, word):
    """All remedies of a word, each with the price 1."""
    return [(remedy, 1) for remedy in remedies_of(program, word)]


def uncut(pairs, remedies):
    """The pairs that none of the remedies cuts."""
    return tuple([pair for pair in pairs if not any([is_cut(remedy, pair) for remedy in remedies])])


def thread_with(instructions, thread, remedies):
    """The instructions of a thread with the remedies."""
    found = []
    for at, instruction in enumerate(instructions):
        if ("fence", thread, at) in remedies:
            found.append(("fence",))
        if ("swap", thread, at) in remedies:
            found.append(("swap", instruction[1]))
        else:
            found.append(instruction)
    if ("fence", thread, len(instructions)) in remedies:
        found.append(("fence",))
    return tuple(found)
