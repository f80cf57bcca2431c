"""The errors of the package. Each keeps the value that it was made with."""


class FenceError(ValueError):
    """What all errors of the package are."""


class BadStep(FenceError):
    """A value is not a step."""

    def __init__(self, step):
        self.step = step


class NoThread(FenceError):
    """A program has no thread with this number."""

    def __init__(self, thread):
        self.thread = thread


class Finished(FenceError):
    """All instructions of the thread are done."""

    def __init__(self, thread):
        self.thread = thread


class Blocked(FenceError):
    """The next instruction is a fence or a swap, and a store of the thread waits."""

    def __init__(self, thread):
        self.thread = thread


class Full(FenceError):
    """The next instruction is a store, and its queue has no room."""

    def __init__(self, thread):
        self.thread = thread


class NothingWaits(FenceError):
    """No store of the thread to the variable waits."""

    def __init__(self, variable):
        self.variable = variable


class NotOldest(FenceError):
    """The oldest waiting store of the thread is to another variable."""

    def __init__(self, variable):
        self.variable = variable


class Incomplete(FenceError):
    """A run is not complete."""


class NotLive(FenceError):
    """A value is not a live pair."""

    def __init__(self, pair):
        self.pair = pair


class TooLong(FenceError):
    """A thread would have more instructions than the limit."""

    def __init__(self, limit):
        self.limit = limit


class Unfaithful(FenceError):
    """A program is not faithful."""


class TooMany(FenceError):
    """Runs have more different situations than the limit."""

    def __init__(self, limit):
        self.limit = limit


class BadProgram(FenceError):
    """A value is not a program."""

    def __init__(self, value):
        self.value = value


class BadBuffers(FenceError):
    """A value is not buffers."""

    def __init__(self, value):
        self.value = value


class BadRemedies(FenceError):
    """A value is not a remedy or remedies of a program."""

    def __init__(self, value):
        self.value = value


class NotThere(FenceError):
    """A remedy is not among those that were looked through."""

    def __init__(self, remedy):
        self.remedy = remedy


class NothingToUndo(FenceError):
    """No step is left that could be taken back."""


class NoNumber(FenceError):
    """A value is not the number of a step."""

    def __init__(self, number):
        self.number = number


class NoMachine(FenceError):
    """There is no machine."""


class BadText(FenceError):
    """A row cannot stand where it stands in a text."""

    def __init__(self, row):
        self.row = row


class BadLine(FenceError):
    """A value is not a line that a desk knows."""

    def __init__(self, line):
        self.line = line
