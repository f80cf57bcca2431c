"""What several tests need: programs, values of every kind, and a model to compare with."""

import ast
import itertools
import random

TWO = ((("store", "x"), ("load", "y")), (("store", "y"), ("load", "x")))
MESSAGE = ((("store", "x"), ("store", "y")), (("load", "y"), ("load", "x")))
THREE = ((("store", "x"), ("load", "y")), (("store", "y"),), (("load", "y"), ("load", "x")))
LINE, LANES = ("line", 4), ("lanes", 4)

# All kinds of instructions, several variables, and a thread without any.
MIXED = (
    (("store", "x"), ("store", "y"), ("store", "x"), ("load", "x"), ("fence",), ("load", "y")),
    (("swap", "x"), ("store", "y"), ("swap", "y")),
    (),
)
SAME = ((("store", "x"), ("store", "x"), ("store", "y")), (("store", "x"), ("swap", "x")))
EMPTY = ((), ())
NAMES = ("a", "b", "c", "d", "e", "f")
GREATEST = tuple(tuple(("store", NAMES[at % 6]) for at in range(16)) for _ in range(6))

SEVERAL = (TWO, MESSAGE, THREE, MIXED, SAME, EMPTY)
BUFFERS = (("line", 1), ("line", 2), LINE, ("line", 16), ("lanes", 1), ("lanes", 2), LANES, ("lanes", 16))


# Loads of one's own waiting store, with another thread's store to the same variable.
OWN = ((("store", "x"), ("load", "x"), ("load", "y")), (("store", "y"), ("store", "x"), ("load", "y")))
# Fences and swaps on the way, and queues that are full.
FENCED = (
    (("store", "x"), ("fence",), ("store", "y"), ("load", "z")),
    (("swap", "z"), ("store", "x"), ("load", "y")),
)
FULL = (
    (("store", "a"), ("store", "x"), ("load", "y")),
    (("store", "a"), ("store", "y"), ("store", "b"), ("load", "x")),
)
SMALL = SEVERAL + (OWN, FENCED, FULL)


def random_programs(many, seed, most=7):
    """Small programs of all kinds of instructions, the same ones at each call."""
    source = random.Random(seed)
    programs = []
    for _ in range(many):
        threads = [[] for _ in range(source.choice((2, 2, 3, 3, 4)))]
        names = "xyz"[:source.choice((2, 2, 3))]
        for _ in range(source.randint(4, most)):
            word = source.choice(("store",) * 6 + ("load",) * 6 + ("swap", "fence"))
            row = (word,) if word == "fence" else (word, source.choice(names))
            threads[source.randrange(len(threads))].append(row)
        programs.append(tuple(tuple(thread) for thread in threads))
    return programs


def nested(levels, wrap):
    """A value that is nested so many levels deep."""
    value = wrap(0)
    for _ in range(levels - 1):
        value = wrap(value)
    return value


def values():
    """Values of every kind of point [2], deep ones too."""
    return [
        0, 1, -1, 2, 6, 7, 16, 17, 10 ** 40, -10 ** 40, True, False, None,
        "", "a", "x", "X", "do", "flush", "line", "lanes", "store", "fence", "(0,)", "~", "a" * 500,
        (), ((),), ((), ()), (0,), (0, 0), (0, 1, 2), (None,), (True, False), ("",), ("do",), ("line",),
        ("fence",), ("store", "x"), (("fence",),), ((("fence",),),), ("do", "0"), ("do", None), ("do", (0,)),
        ("line", "4"), ("line", None), ("line", ()), ((0, 0), ((), ()), (None, None)), (("do", 0), None), (0, [], {}),
        [], [[]], [0], ["fence"], ["do", 0], ["line", 4], [("do", 0)], [[["fence"]]], [None, True, "x"],
        {}, {"a": 1}, {0: "do", 1: 0}, {"do": 0}, {"line": 4}, {None: []}, {True: {}}, {(0, 1): [0]},
        nested(30, lambda value: (value,)),
        nested(30, lambda value: [value]),
        nested(30, lambda value: {"a": value}),
        nested(30, lambda value: ("do", value)),
        nested(30, lambda value: (value, [value] if isinstance(value, int) else {})),
        nested(29, lambda value: [value, (), {}]),
        nested(29, lambda value: ((value,) if isinstance(value, int) else value, ("store", "x"))),
    ]


def listed(value):
    """Copies of a tuple with a list in place of one tuple, at each depth."""
    if isinstance(value, tuple):
        yield list(value)
        for at, item in enumerate(value):
            for other in listed(item):
                yield value[:at] + (other,) + value[at + 1:]


def varied(value):
    """Values near to a tuple: an item more, an item less, other items, lists, at each depth."""
    yield from listed(value)
    if isinstance(value, tuple):
        yield value + (0,)
        yield value + value[:1]
        for at, item in enumerate(value):
            yield value[:at] + value[at + 1:]
            for other in varied(item):
                yield value[:at] + (other,) + value[at + 1:]
        return
    yield from (None, True, False, "", "zz", "do", "flush", -1, 0, 1, 2, 10 ** 30, [], {}, ())


def is_all_tuples(value):
    """Whether no collection in a value is anything but a tuple."""
    if isinstance(value, tuple):
        return all(is_all_tuples(item) for item in value)
    return value is None or type(value) in (int, str)


class Model:
    """A second way to run a program: a queue of places for each thread, or thread and variable."""

    def __init__(self, program, buffers, steps=()):
        self.program = program
        self.word, self.room = buffers
        self.done = {thread: 0 for thread in range(len(program))}
        self.queues = {}
        self.memory = {row[1]: None for thread in program for row in thread if len(row) == 2}
        # What loads and swaps read, and the number of the step at which a store or swap came to memory.
        self.reads, self.times, self.made = {}, {}, 0
        for step in steps:
            if self.make(step) is not None:
                raise AssertionError(step)

    def queue(self, thread, variable):
        key = thread if self.word == "line" else (thread, variable)
        return self.queues.setdefault(key, [])

    def waiting(self, thread):
        # A thread does its stores in the order of their numbers.
        return tuple(sorted(at for queue in self.queues.values() for owner, at in queue if owner == thread))

    def state(self):
        threads = range(len(self.program))
        return (
            tuple(self.done[thread] for thread in threads),
            tuple(self.waiting(thread) for thread in threads),
            tuple(self.memory[variable] for variable in sorted(self.memory)),
        )

    def copy(self):
        other = Model(self.program, (self.word, self.room))
        other.done, other.memory = dict(self.done), dict(self.memory)
        other.queues = {key: list(queue) for key, queue in self.queues.items()}
        other.reads, other.times, other.made = dict(self.reads), dict(self.times), self.made
        return other

    def situation(self):
        """The state, what was read, and the order in which stores came to memory."""
        return (self.state(), tuple(sorted(self.reads.items(), key=repr)), self.orders())

    def orders(self):
        came = sorted(self.times, key=self.times.get)
        return tuple(
            (variable, tuple(place for place in came if self.row(place)[1] == variable))
            for variable in sorted(self.memory)
        )

    def story(self):
        return (tuple((place, self.reads[place]) for place in sorted(self.reads)), self.orders())

    def row(self, place):
        return self.program[place[0]][place[1]]

    def is_complete(self):
        return not any(self.queues.values()) and list(self.done.values()) == [len(rows) for rows in self.program]

    def make(self, step):
        """Makes a step; returns the name and the value of the error if it can't be made."""
        thread = step[1]
        if thread not in self.done:
            return ("NoThread", thread)
        wrong = self.flush(thread, step[2]) if step[0] == "flush" else self.do(thread)
        self.made += wrong is None
        return wrong

    def do(self, thread):
        at = self.done[thread]
        if at == len(self.program[thread]):
            return ("Finished", thread)
        word, variable = (self.program[thread][at] + (None,))[:2]
        if word in ("fence", "swap") and self.waiting(thread):
            return ("Blocked", thread)
        if word == "store" and len(self.queue(thread, variable)) == self.room:
            return ("Full", thread)
        if word == "store":
            self.queue(thread, variable).append((thread, at))
        if word in ("load", "swap"):
            own = [(thread, other) for other in self.waiting(thread) if self.program[thread][other][1] == variable]
            self.reads[thread, at] = own[-1] if own else self.memory[variable]
        if word == "swap":
            self.came(variable, (thread, at))
        self.done[thread] += 1
        return None

    def flush(self, thread, variable):
        if variable not in [self.program[thread][at][1] for at in self.waiting(thread)]:
            return ("NothingWaits", variable)
        queue = self.queue(thread, variable)
        if self.program[thread][queue[0][1]][1] != variable:
            return ("NotOldest", variable)
        self.came(variable, queue.pop(0))
        return None

    def came(self, variable, place):
        self.memory[variable] = place
        self.times[place] = self.made


def candidates(program):
    """Steps that can be asked for, and some that never can."""
    threads = list(range(len(program) + 2)) + [10 ** 20]
    variables = sorted({row[1] for thread in program for row in thread if len(row) == 2}) + ["zzzz"]
    steps = [("do", thread) for thread in threads]
    return steps + [("flush", thread, variable) for thread in threads for variable in variables]


def some_runs(program, buffers, most):
    """A run to each situation of the model, at most so many, the shortest first."""
    found, seen, at = [()], {Model(program, buffers).state()}, 0
    while at < len(found) and len(found) < most:
        for step in candidates(program):
            model = Model(program, buffers, found[at])
            if model.make(step) is None and model.state() not in seen:
                seen.add(model.state())
                found.append(found[at] + (step,))
        at += 1
    return found


def situations(program, buffers, most=10 ** 9):
    """A run to each situation, at most so many, the shortest first, with its model."""
    variables = sorted({row[1] for thread in program for row in thread if len(row) == 2})
    threads = range(len(program))
    steps = [("do", thread) for thread in threads]
    steps += [("flush", thread, variable) for thread in threads for variable in variables]
    first = Model(program, buffers)
    found, seen, at = [((), first)], {first.situation()}, 0
    while at < len(found) and len(found) < most:
        run, model = found[at]
        yield run, model
        for step in steps:
            other = model.copy()
            if other.make(step) is None and other.situation() not in seen:
                seen.add(other.situation())
                found.append((run + (step,), other))
        at += 1


def model_facts(model):
    """The facts of a model's run, case by case, by the times at which stores came to memory."""
    never = 10 ** 9
    places = [(thread, at) for thread in model.done for at in range(model.done[thread])]
    places = [place for place in places if len(model.row(place)) == 2]
    writers = [place for place in places if model.row(place)[0] in ("store", "swap")]
    found = set()
    for p in places:
        for q in places:
            if p[0] == q[0] and p[1] < q[1]:
                found.add((p, q))
            if q in model.reads and model.reads[q] == p:
                found.add((p, q))
            if p == q or q not in writers or model.row(p)[1] != model.row(q)[1]:
                continue
            if p in writers and model.times.get(p, never) < model.times.get(q, never):
                found.add((p, q))
            if p in model.reads:
                read = model.reads[p]
                if read is None or model.times.get(read, never) < model.times.get(q, never):
                    found.add((p, q))
    return found


def has_ring(pairs):
    """Whether there is a ring of pairs: whether something is left when all that leads nowhere is taken away."""
    left = set(pairs)
    while True:
        starts = {p for p, _ in left}
        kept = {(p, q) for p, q in left if q in starts}
        if kept == left:
            return bool(left)
        left = kept


def is_ring(pairs, value):
    """Whether a tuple of places is a ring of pairs."""
    if len(value) < 2 or len(set(value)) != len(value):
        return False
    return all(pair in pairs for pair in zip(value, value[1:] + value[:1]))


def all_visits(program):
    """All threads with two of their accesses, the second one not ahead of the first."""
    return [
        (thread, first, last)
        for thread, rows in enumerate(program)
        for first, last in itertools.combinations_with_replacement(range(len(rows)), 2)
        if len(rows[first]) == len(rows[last]) == 2
    ]


def is_ring_for(program, pair, value):
    """Whether a tuple of tuples of three numbers is a ring for a pair, as point [9] words it."""
    if not value or not set(value) <= set(all_visits(program)):
        return False
    others = [visit[0] for visit in value]
    if len(set(others + [pair[0]])) <= len(others):
        return False
    # A ring goes from the late access to the first visit, and from the last one to the early access.
    ends = [(thread, last) for thread, _, last in (pair,) + value]
    starts = [(thread, first) for thread, first, _ in value + (pair,)]
    rows = [(program[one[0]][one[1]], program[other[0]][other[1]]) for one, other in zip(ends, starts)]
    return all(one[1] == other[1] and {one[0], other[0]} != {"load"} for one, other in rows)


def rings_for(program, pair):
    """All rings for a pair."""
    others = [thread for thread in range(len(program)) if thread != pair[0]]
    visits = {thread: [visit for visit in all_visits(program) if visit[0] == thread] for thread in others}
    return [
        value
        for many in range(1, len(others) + 1)
        for order in itertools.permutations(others, many)
        for value in itertools.product(*[visits[thread] for thread in order])
        if is_ring_for(program, pair, value)
    ]


def steps_by_search(rows, buffers, first, last, early=None):
    """The fewest steps of a thread alone behind which last can be seen in a ring that comes to first.

    If early is a number, the store early must still wait then. None if there are no such steps.
    """
    names = sorted({row[1] for row in rows if len(row) == 2})
    layer, seen, many = [Model((rows,), buffers)], set(), 0
    while layer:
        following = []
        for model in layer:
            done, waiting = model.done[0], model.waiting(0)
            unseen = [at for at in waiting if rows[at][1] == rows[last][1]]
            if done == last + 1 and not unseen and (early is None or early in waiting):
                return many
            own = done == first and rows[first][0] == "load" and rows[first][1] in [rows[at][1] for at in waiting]
            steps = [] if own or done > last else [("do", 0)]
            for step in steps + [("flush", 0, name) for name in names]:
                other = model.copy()
                if other.make(step) is None and other.state() not in seen:
                    seen.add(other.state())
                    following.append(other)
        layer, many = following, many + 1
    return None


def loose_by_search(program, buffers):
    """The loose pairs: the thread alone can have done late, so that others see it, while early waits."""
    return tuple(
        (thread, early, late)
        for thread, early, late in sorted(all_visits(program))
        if program[thread][early][0] == "store" and program[thread][early][1] != program[thread][late][1]
        and steps_by_search(program[thread], buffers, early, late, early) is not None
    )


def forms(program):
    """All stories of a program, those too that no run has."""
    variables = sorted({row[1] for thread in program for row in thread if len(row) == 2})
    rows = {(thread, at): row for thread, rows in enumerate(program) for at, row in enumerate(rows) if len(row) == 2}
    writers = {
        variable: [place for place in sorted(rows) if rows[place] in (("store", variable), ("swap", variable))]
        for variable in variables
    }
    choices = [
        [(place, source) for source in [None] + writers[rows[place][1]] if source != place]
        for place in sorted(rows) if rows[place][0] != "store"
    ]
    orders = [[(variable, order) for order in itertools.permutations(writers[variable])] for variable in variables]
    for reads in itertools.product(*choices):
        for order in itertools.product(*orders):
            yield (reads, order)


def plain_stories(program):
    """The stories of all plain runs, each with the orders of threads that lead to it."""
    found = {}
    for order in set(itertools.permutations([thread for thread, rows in enumerate(program) for _ in rows])):
        model = Model(program, ("lanes", 1))
        for thread in order:
            row = program[thread][model.done[thread]]
            wrong = model.make(("do", thread))
            if row[0] == "store":
                wrong = wrong or model.make(("flush", thread, row[1]))
            if wrong:
                raise AssertionError(wrong)
        found.setdefault(model.story(), set()).add(order)
    return found


def shown(error):
    """An error as the examples of the document show it."""
    kept = ", ".join(f"{name}={value!r}" for name, value in vars(error).items())
    return f"{type(error).__name__}({kept})"


def run_examples(text, names):
    """Runs examples as the document writes them; returns pairs of what is wanted and what came."""
    pairs = []
    for part in text.strip().split(">>> ")[1:]:
        source, _, wanted = part.strip().partition("\n")
        if not wanted:
            exec(source, names)
            continue
        try:
            came = repr(eval(source, names))
        except ValueError as error:
            came = "raises " + shown(error)
        if not wanted.startswith("raises "):
            wanted = repr(ast.literal_eval(wanted))
        pairs.append((wanted, came))
    return pairs


def all_remedies(program, words=("fence", "swap")):
    """All remedies of a program, ascending, as point [11] words it."""
    fences = [("fence", thread, at) for thread, rows in enumerate(program) for at in range(len(rows) + 1)]
    swaps = [
        ("swap", thread, at)
        for thread, rows in enumerate(program) for at, row in enumerate(rows) if row[0] == "store"
    ]
    return [remedy for remedy in fences + swaps if remedy[0] in words]


def cut_pairs(remedies, pairs):
    """The pairs that some remedy cuts, as point [11] words it."""
    found = []
    for thread, early, late in pairs:
        for word, other, at in remedies:
            if thread == other and (early < at <= late or word == "swap" and at == early):
                found.append((thread, early, late))
                break
    return found


def subsets(items):
    """All tuples of some of the items, in their order, the shortest first."""
    for many in range(len(items) + 1):
        yield from itertools.combinations(items, many)


def permuted(given):
    """Dicts with the same items in other orders."""
    names = list(given)
    for many in range(len(names)):
        for turned in (names[many:] + names[:many], names[many:] + names[:many][::-1], names[::-1]):
            yield {name: given[name] for name in turned}


def dense_programs(many, seed, least=3, most=6):
    """Programs of two or three threads with many live pairs, the same ones at each call."""
    source = random.Random(seed)
    programs = []
    for _ in range(many):
        threads = []
        for _ in range(source.choice((2, 2, 3))):
            words = [source.choice(("store",) * 6 + ("load",) * 6 + ("swap", "fence"))
                     for _ in range(source.randint(least, most))]
            threads.append(tuple((word,) if word == "fence" else (word, source.choice("xyz")) for word in words))
        programs.append(tuple(threads))
    return programs
