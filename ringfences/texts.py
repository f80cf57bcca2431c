"""Texts: programs, runs and remedies as rows of words."""

from ringfences.errors import BadText
from ringfences.programs import is_program, variables_of
from ringfences.remedies import is_ascending, is_remedy
from ringfences.runs import walk
from ringfences.steps import is_step, start

DIGITS = "0123456789"
MOST_DIGITS = 9


def format_program(program):
    """The text of a program."""
    return "\n".join([thread_row(instructions) for instructions in program])


def format_run(run):
    """The text of a tuple of steps."""
    return "\n".join([words_of(step) for step in run])


def format_remedies(remedies):
    """The text of remedies."""
    return "\n".join([words_of(remedy) for remedy in remedies])


def parse_program(text):
    """The program whose text any value is."""
    if not isinstance(text, str):
        raise BadText(0)
    threads = ()
    for number, row in enumerate(text.split("\n")):
        # The threads ahead are a program, so that only this one can be wrong or too much.
        threads = threads + (words_of_thread(row),)
        if not is_program(threads):
            raise BadText(number)
    return threads


def parse_run(text):
    """The steps, possible or not, whose text any value is."""
    steps = []
    for number, row in enumerate(rows_in(text)):
        step = step_in(row)
        if step is None:
            raise BadText(number)
        steps.append(step)
    return tuple(steps)


def parse_remedies(program, text):
    """The remedies of a program whose text any value is."""
    remedies = []
    for number, row in enumerate(rows_in(text)):
        remedy = words_in(row)
        if not is_remedy(program, remedy) or not is_ascending(remedies[-1:] + [remedy]):
            raise BadText(number)
        remedies.append(remedy)
    return tuple(remedies)


def listing(program, buffers, run):
    """A text with a row for the start and a row for each step of a run."""
    rows = [listed_row(program, 0, "start", start(program))]
    for number, (step, state) in enumerate(walk(program, buffers, run)):
        rows.append(listed_row(program, number + 1, words_of(step), state))
    return "\n".join(rows)


def listed_row(program, many, words, state):
    """The row of a listing for the state after so many steps."""
    return f"{many:>3} | {words:<14} | {state_words(program, state)}"


def state_words(program, state):
    """What a listing tells of a state: its threads, and what its variables hold."""
    done, waiting, memory = state
    threads = [f"{many}/{len(queue)}" for many, queue in zip(done, waiting)]
    held = [f"{variable}={place_words(place)}" for variable, place in zip(variables_of(program), memory)]
    return " ".join(threads) + " | " + " ".join(held)


def place_words(place):
    """A place, or that there is none."""
    if place is None:
        return "-"
    return f"{place[0]}.{place[1]}"


def words_of(row):
    """The words of an instruction, a step or a remedy."""
    return " ".join([str(word) for word in row])


def thread_row(instructions):
    """The row of a thread."""
    if not instructions:
        return "thread"
    return "thread " + "; ".join([words_of(instruction) for instruction in instructions])


def words_of_thread(row):
    """The words of each instruction of a row, which may be none; None if the row is not that of a thread."""
    if row == "thread":
        return ()
    if not row.startswith("thread "):
        return None
    return tuple([tuple(words.split(" ")) for words in row[len("thread "):].split("; ")])


def rows_in(text):
    """The rows of any value that is to be the text of a run or of remedies."""
    if not isinstance(text, str):
        raise BadText(0)
    if text == "":
        return []
    rows = text.split("\n")
    # An empty row may stand alone, so that only what follows it is wrong.
    if rows[0] == "":
        raise BadText(1)
    return rows


def step_in(row):
    """The step, possible or not, that a row is, None if it is none."""
    step = words_in(row)
    if not is_step(step):
        return None
    return step


def words_in(row):
    """The words of a row, with numbers in place of words that are numbers."""
    return tuple([read_word(word) for word in row.split(" ")])


def read_word(word):
    """The number that a word is, the word itself if it is none."""
    number = number_in(word)
    if number is None:
        return word
    return number


def number_in(word):
    """The number that a word is, None if it is none or has too many digits."""
    if not 1 <= len(word) <= MOST_DIGITS or not all([letter in DIGITS for letter in word]):
        return None
    if word[0] == "0" and word != "0":
        return None
    return int(word)
