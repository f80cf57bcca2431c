"""Machines: programs that are run step by step, and trials that give them back as they were."""

from ringfences.errors import BadBuffers, BadProgram, NoMachine, NoNumber, NothingToUndo
from ringfences.facts import facts, is_torn
from ringfences.programs import is_buffers, is_integer, is_program
from ringfences.runs import finishing_step, is_complete
from ringfences.steps import after, possible, start
from ringfences.stories import story_of


class Machine:
    """A program that is run step by step."""

    def __init__(self, program, buffers):
        if not is_program(program):
            raise BadProgram(program)
        if not is_buffers(buffers):
            raise BadBuffers(buffers)
        self._program = program
        self._buffers = buffers
        # All that changes: the steps, each with the state after it. The tuple itself
        # never changes, so that copies and trials can keep it.
        self._made = ()

    @classmethod
    def replayed(cls, program, buffers, run):
        """A machine that has made the steps of a run."""
        machine = cls(program, buffers)
        for step in run:
            machine.do(step)
        return machine

    @property
    def program(self):
        """The program."""
        return self._program

    @property
    def buffers(self):
        """The buffers."""
        return self._buffers

    @property
    def state(self):
        """The state after all steps made."""
        if len(self._made) == 0:
            return start(self._program)
        return self._made[-1][1]

    @property
    def steps(self):
        """All steps made."""
        return tuple([step for step, _ in self._made])

    def do(self, step):
        """Makes a step."""
        state = after(self._program, self._buffers, self.state, step)
        self._made = self._made + ((step, state),)

    def __call__(self, step):
        self.do(step)
        return self.state

    def undo(self):
        """Takes back the last step and returns it."""
        if len(self._made) == 0:
            raise NothingToUndo()
        step = self._made[-1][0]
        self._made = self._made[:-1]
        return step

    def possible(self):
        """All steps that are possible now, ascending."""
        return possible(self._program, self._buffers, self.state)

    def facts(self):
        """All facts of the steps made, ascending."""
        return facts(self._program, self._buffers, self.steps)

    def is_torn(self):
        """Whether the steps made have a ring of facts."""
        return is_torn(self._program, self._buffers, self.steps)

    def is_complete(self):
        """Whether all instructions are done and no store waits."""
        return is_complete(self._program, self._buffers, self.steps)

    def story(self):
        """The story of the steps made, which must be a complete run."""
        return story_of(self._program, self._buffers, self.steps)

    def finish(self):
        """Makes steps until the run is complete; returns their number."""
        many = 0
        step = finishing_step(self._program, self.state)
        while step is not None:
            self.do(step)
            many += 1
            step = finishing_step(self._program, self.state)
        return many

    def copy(self):
        """An independent machine with the same steps to take back."""
        other = Machine(self._program, self._buffers)
        other._made = self._made
        return other

    def __len__(self):
        return len(self._made)

    def __getitem__(self, at):
        if not is_integer(at) or not 0 <= at < len(self._made):
            raise NoNumber(at)
        return self._made[at][0]

    def __iter__(self):
        raise TypeError("a machine is not iterated over, its steps are")

    def __eq__(self, other):
        return (
            isinstance(other, Machine)
            and self._program == other._program
            and self._buffers == other._buffers
            and self._made == other._made
        )


class Block:
    """What a machine had made when a block began, and the block of the same trial around it."""

    def __init__(self, made, around):
        self.made = made
        self.around = around


class Trial:
    """A context manager: behind its block a machine is as it was at the beginning."""

    def __init__(self, machine):
        if not isinstance(machine, Machine):
            raise NoMachine()
        self.machine = machine
        self.block = None

    def __enter__(self):
        self.block = Block(self.machine._made, self.block)
        return self.machine

    def __exit__(self, kind, value, trace):
        machine = self.machine
        machine._made = self.block.made
        self.block = self.block.around


def tried(machine, look):
    """What a function returns for a machine, which is afterwards as it was."""
    with Trial(machine) as held:
        return look(held)
