"""Programs of threads, and the buffers in which their stores wait."""

MOST_THREADS = 6
MOST_INSTRUCTIONS = 16
MOST_VARIABLES = 6
MOST_LETTERS = 4
MOST_ROOM = 16


def is_integer(value):
    """Whether any value is an integer; a boolean is none."""
    return isinstance(value, int) and not isinstance(value, bool)


def is_variable(value):
    """Whether any value is the name of a variable."""
    if not isinstance(value, str) or not 1 <= len(value) <= MOST_LETTERS:
        return False
    # isalpha and islower would let in letters other than a to z.
    return all(["a" <= letter <= "z" for letter in value])


def is_instruction(value):
    """Whether any value is an instruction."""
    if value == ("fence",):
        return True
    if not isinstance(value, tuple) or len(value) != 2:
        return False
    return value[0] in ("store", "load", "swap") and is_variable(value[1])


def is_thread(value):
    """Whether any value is a thread of a program."""
    if not isinstance(value, tuple) or len(value) > MOST_INSTRUCTIONS:
        return False
    return all([is_instruction(instruction) for instruction in value])


def is_program(value):
    """Whether any value is a program."""
    if not isinstance(value, tuple) or not 1 <= len(value) <= MOST_THREADS:
        return False
    if not all([is_thread(thread) for thread in value]):
        return False
    return len(variables_of(value)) <= MOST_VARIABLES


def is_buffers(value):
    """Whether any value is buffers: a word and a room."""
    if not isinstance(value, tuple) or len(value) != 2:
        return False
    word, room = value
    return word in ("line", "lanes") and is_integer(room) and 1 <= room <= MOST_ROOM


def is_access(instruction):
    """Whether an instruction is anything but a fence."""
    return instruction[0] != "fence"


def writes(instruction):
    """Whether an instruction is a store or a swap."""
    return instruction[0] in ("store", "swap")


def loads(instruction):
    """Whether an instruction is a load or a swap."""
    return instruction[0] in ("load", "swap")


def variables_of(program):
    """The variables of a program, ascending."""
    return tuple(sorted({row[1] for thread in program for row in thread if is_access(row)}))


def accesses(program):
    """The places of all accesses of a program, ascending."""
    return tuple([
        (thread, at)
        for thread, instructions in enumerate(program)
        for at, instruction in enumerate(instructions)
        if is_access(instruction)
    ])


def instruction_at(program, place):
    """The instruction at a place (thread, at)."""
    thread, at = place
    return program[thread][at]


def meets(program, one, other):
    """Whether the accesses at two places have one variable and at least one of them writes it."""
    first = instruction_at(program, one)
    second = instruction_at(program, other)
    return first[1] == second[1] and (writes(first) or writes(second))
