"""Fences that a faithful program does not need."""

from ringfences.errors import Unfaithful
from ringfences.pairs import live_pairs
from ringfences.programs import is_access


def needless_fences(program, buffers):
    """The places of all fences without each of which, alone, a program is still faithful, ascending."""
    kept_apart = fences_of_pairs(program, buffers)
    return tuple([fence for fence in fences_of(program) if [fence] not in kept_apart])


def thinned(program, buffers):
    """What is left of a program when, from the last fence on, each one goes that is not needed any more."""
    kept_apart = fences_of_pairs(program, buffers)
    dropped = []
    for fence in fences_of(program)[::-1]:
        if [fence] not in kept_apart:
            dropped.append(fence)
            kept_apart = [[other for other in fences if other != fence] for fences in kept_apart]
    return tuple([
        tuple([row for at, row in enumerate(instructions) if (thread, at) not in dropped])
        for thread, instructions in enumerate(program)
    ])


def fences_of(program):
    """The places of all fences of a program, ascending."""
    return [
        (thread, at)
        for thread, instructions in enumerate(program)
        for at, instruction in enumerate(instructions)
        if not is_access(instruction)
    ]


def fences_of_pairs(program, buffers):
    """For each pair that is live without any fence: the fences of a faithful program that cut it."""
    # The fences of a program are remedies of what is left without them. So it is
    # faithful with those that cut each of these pairs, whatever else is removed.
    fences = fences_of(program)
    numbers = [
        [at for at in range(len(instructions)) if (thread, at) not in fences]
        for thread, instructions in enumerate(program)
    ]
    bare = tuple([tuple([program[thread][at] for at in row]) for thread, row in enumerate(numbers)])
    kept_apart = [
        [(other, at) for other, at in fences if other == thread and numbers[thread][early] < at < numbers[thread][late]]
        for thread, early, late in live_pairs(bare, buffers)
    ]
    if [] in kept_apart:
        raise Unfaithful()
    return kept_apart
