"""A desk: a machine that is told what to do by lines of words."""

from ringfences.errors import BadLine, NoMachine
from ringfences.machine import Machine
from ringfences.needless import needless_fences
from ringfences.pairs import is_faithful, live_pairs
from ringfences.programs import is_buffers
from ringfences.remedies import fewest
from ringfences.tearing import fewest_steps, tearing_run
from ringfences.texts import format_run, number_in, parse_program, state_words, step_in, words_of


class Desk:
    """Keeps a machine, at first none."""

    def __init__(self):
        self._machine = None

    def say(self, line):
        """Does what a line, any value, tells, and returns the answer."""
        if not isinstance(line, str) or "\n" in line:
            raise BadLine(line)
        if line.startswith("line ") or line.startswith("lanes "):
            self._machine = machine_in(line)
            return "done"
        step = step_in(line)
        if step is None and line not in ANSWERS:
            raise BadLine(line)
        if self._machine is None:
            raise NoMachine()
        if step is not None:
            self._machine.do(step)
            return "done"
        answer = ANSWERS[line]
        return answer(self._machine)


def machine_in(line):
    """The new machine that a line asks for."""
    parts = line.split(" ", 2)
    if len(parts) < 3:
        raise BadLine(line)
    word, room, text = parts
    buffers = (word, number_in(room))
    if not is_buffers(buffers):
        raise BadLine(line)
    return Machine(parse_program(text.replace(" / ", "\n")), buffers)


def undone(machine):
    """The words of the step that is taken back."""
    return words_of(machine.undo())


def finished(machine):
    """How many steps complete the run."""
    return str(machine.finish())


def told_torn(machine):
    """Whether the run is torn."""
    return yes_or_no(machine.is_torn())


def told_faithful(machine):
    """Whether the program is faithful."""
    return yes_or_no(is_faithful(machine.program, machine.buffers))


def told_state(machine):
    """The state, as a listing tells it."""
    return state_words(machine.program, machine.state)


def told_pairs(machine):
    """The live pairs."""
    pairs = live_pairs(machine.program, machine.buffers)
    if not pairs:
        return "none"
    return " ".join([f"{thread}.{early}.{late}" for thread, early, late in pairs])


def told_steps(machine):
    """The fewest steps of a torn run."""
    many = fewest_steps(machine.program, machine.buffers)
    if many is None:
        return "none"
    return str(many)


def told_run(machine):
    """A torn run with the fewest steps."""
    run = tearing_run(machine.program, machine.buffers)
    if run is None:
        return "none"
    return format_run(run).replace("\n", " / ")


def told_fences(machine):
    """How many fences are enough."""
    return str(len(fewest(machine.program, machine.buffers, "fence")))


def told_swaps(machine):
    """How many swaps are enough."""
    return str(len(fewest(machine.program, machine.buffers, "swap")))


def told_needless(machine):
    """How many fences the program does not need."""
    return str(len(needless_fences(machine.program, machine.buffers)))


def yes_or_no(is_so):
    """An answer to a question."""
    if is_so:
        return "yes"
    return "no"


# What a line of a single word is answered by.
ANSWERS = {
    "undo": undone,
    "finish": finished,
    "torn": told_torn,
    "faithful": told_faithful,
    "state": told_state,
    "pairs": told_pairs,
    "steps": told_steps,
    "run": told_run,
    "fences": told_fences,
    "swaps": told_swaps,
    "needless": told_needless,
}
