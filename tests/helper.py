"""What several tests need: programs, values of every kind, and a model to compare with."""

import ast

TWO = ((("store", "x"), ("load", "y")), (("store", "y"), ("load", "x")))
MESSAGE = ((("store", "x"), ("store", "y")), (("load", "y"), ("load", "x")))
THREE = ((("store", "x"), ("load", "y")), (("store", "y"),), (("load", "y"), ("load", "x")))
LINE, LANES = ("line", 4), ("lanes", 4)

# All kinds of instructions, several variables, and a thread without any.
MIXED = (
    (("store", "x"), ("store", "y"), ("store", "x"), ("load", "x"), ("fence",), ("load", "y")),
    (("swap", "x"), ("store", "y"), ("swap", "y")),
    (),
)
SAME = ((("store", "x"), ("store", "x"), ("store", "y")), (("store", "x"), ("swap", "x")))
EMPTY = ((), ())
NAMES = ("a", "b", "c", "d", "e", "f")
GREATEST = tuple(tuple(("store", NAMES[at % 6]) for at in range(16)) for _ in range(6))

SEVERAL = (TWO, MESSAGE, THREE, MIXED, SAME, EMPTY)
BUFFERS = (("line", 1), ("line", 2), LINE, ("line", 16), ("lanes", 1), ("lanes", 2), LANES, ("lanes", 16))


def nested(levels, wrap):
    """A value that is nested so many levels deep."""
    value = wrap(0)
    for _ in range(levels - 1):
        value = wrap(value)
    return value


def values():
    """Values of every kind of point [2], deep ones too."""
    return [
        0, 1, -1, 2, 6, 7, 16, 17, 10 ** 40, -10 ** 40, True, False, None,
        "", "a", "x", "X", "do", "flush", "line", "lanes", "store", "fence", "(0,)", "~", "a" * 500,
        (), ((),), ((), ()), (0,), (0, 0), (0, 1, 2), (None,), (True, False), ("",), ("do",), ("line",),
        ("fence",), ("store", "x"), (("fence",),), ((("fence",),),), ("do", "0"), ("do", None), ("do", (0,)),
        ("line", "4"), ("line", None), ("line", ()), ((0, 0), ((), ()), (None, None)), (("do", 0), None), (0, [], {}),
        [], [[]], [0], ["fence"], ["do", 0], ["line", 4], [("do", 0)], [[["fence"]]], [None, True, "x"],
        {}, {"a": 1}, {0: "do", 1: 0}, {"do": 0}, {"line": 4}, {None: []}, {True: {}}, {(0, 1): [0]},
        nested(30, lambda value: (value,)),
        nested(30, lambda value: [value]),
        nested(30, lambda value: {"a": value}),
        nested(30, lambda value: ("do", value)),
        nested(30, lambda value: (value, [value] if isinstance(value, int) else {})),
        nested(29, lambda value: [value, (), {}]),
        nested(29, lambda value: ((value,) if isinstance(value, int) else value, ("store", "x"))),
    ]


def listed(value):
    """Copies of a tuple with a list in place of one tuple, at each depth."""
    if isinstance(value, tuple):
        yield list(value)
        for at, item in enumerate(value):
            for other in listed(item):
                yield value[:at] + (other,) + value[at + 1:]


def varied(value):
    """Values near to a tuple: an item more, an item less, other items, lists, at each depth."""
    yield from listed(value)
    if isinstance(value, tuple):
        yield value + (0,)
        yield value + value[:1]
        for at, item in enumerate(value):
            yield value[:at] + value[at + 1:]
            for other in varied(item):
                yield value[:at] + (other,) + value[at + 1:]
        return
    yield from (None, True, False, "", "zz", "do", "flush", -1, 0, 1, 2, 10 ** 30, [], {}, ())


def is_all_tuples(value):
    """Whether no collection in a value is anything but a tuple."""
    if isinstance(value, tuple):
        return all(is_all_tuples(item) for item in value)
    return value is None or type(value) in (int, str)


class Model:
    """A second way to run a program: a queue of places for each thread, or thread and variable."""

    def __init__(self, program, buffers, steps=()):
        self.program = program
        self.word, self.room = buffers
        self.done = {thread: 0 for thread in range(len(program))}
        self.queues = {}
        self.memory = {row[1]: None for thread in program for row in thread if len(row) == 2}
        for step in steps:
            if self.make(step) is not None:
                raise AssertionError(step)

    def queue(self, thread, variable):
        key = thread if self.word == "line" else (thread, variable)
        return self.queues.setdefault(key, [])

    def waiting(self, thread):
        # A thread does its stores in the order of their numbers.
        return tuple(sorted(at for queue in self.queues.values() for owner, at in queue if owner == thread))

    def state(self):
        threads = range(len(self.program))
        return (
            tuple(self.done[thread] for thread in threads),
            tuple(self.waiting(thread) for thread in threads),
            tuple(self.memory[variable] for variable in sorted(self.memory)),
        )

    def make(self, step):
        """Makes a step; returns the name and the value of the error if it can't be made."""
        thread = step[1]
        if thread not in self.done:
            return ("NoThread", thread)
        if step[0] == "flush":
            return self.flush(thread, step[2])
        return self.do(thread)

    def do(self, thread):
        at = self.done[thread]
        if at == len(self.program[thread]):
            return ("Finished", thread)
        word, variable = (self.program[thread][at] + (None,))[:2]
        if word in ("fence", "swap") and self.waiting(thread):
            return ("Blocked", thread)
        if word == "store" and len(self.queue(thread, variable)) == self.room:
            return ("Full", thread)
        if word == "store":
            self.queue(thread, variable).append((thread, at))
        if word == "swap":
            self.memory[variable] = (thread, at)
        self.done[thread] += 1
        return None

    def flush(self, thread, variable):
        if variable not in [self.program[thread][at][1] for at in self.waiting(thread)]:
            return ("NothingWaits", variable)
        queue = self.queue(thread, variable)
        if self.program[thread][queue[0][1]][1] != variable:
            return ("NotOldest", variable)
        self.memory[variable] = queue.pop(0)
        return None


def candidates(program):
    """Steps that can be asked for, and some that never can."""
    threads = list(range(len(program) + 2)) + [10 ** 20]
    variables = sorted({row[1] for thread in program for row in thread if len(row) == 2}) + ["zzzz"]
    steps = [("do", thread) for thread in threads]
    return steps + [("flush", thread, variable) for thread in threads for variable in variables]


def some_runs(program, buffers, most):
    """A run to each situation of the model, at most so many, the shortest first."""
    found, seen, at = [()], {Model(program, buffers).state()}, 0
    while at < len(found) and len(found) < most:
        for step in candidates(program):
            model = Model(program, buffers, found[at])
            if model.make(step) is None and model.state() not in seen:
                seen.add(model.state())
                found.append(found[at] + (step,))
        at += 1
    return found


def shown(error):
    """An error as the examples of the document show it."""
    kept = ", ".join(f"{name}={value!r}" for name, value in vars(error).items())
    return f"{type(error).__name__}({kept})"


def run_examples(text, names):
    """Runs examples as the document writes them; returns pairs of what is wanted and what came."""
    pairs = []
    for part in text.strip().split(">>> ")[1:]:
        source, _, wanted = part.strip().partition("\n")
        if not wanted:
            exec(source, names)
            continue
        try:
            came = repr(eval(source, names))
        except ValueError as error:
            came = "raises " + shown(error)
        if not wanted.startswith("raises "):
            wanted = repr(ast.literal_eval(wanted))
        pairs.append((wanted, came))
    return pairs
