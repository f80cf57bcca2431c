"""Guards: sets of remedies for a program."""

from ringfences.errors import BadProgram, BadRemedies, NotThere, Unfaithful
from ringfences.pairs import live_pairs
from ringfences.programs import is_program
from ringfences.remedies import applied, is_remedies, is_remedy, uncut


class Guard:
    """A set of remedies for a program; it does not change."""

    def __init__(self, program, remedies=()):
        if not is_program(program):
            raise BadProgram(program)
        if not is_remedies(program, remedies):
            raise BadRemedies(remedies)
        self._program = program
        self._remedies = remedies

    @property
    def program(self):
        """The program."""
        return self._program

    @property
    def remedies(self):
        """The remedies, ascending."""
        return self._remedies

    def __len__(self):
        return len(self._remedies)

    def __contains__(self, x):
        # A value with a boolean in it is equal to a remedy, but it is none.
        return is_remedy(self._program, x) and x in self._remedies

    def __add__(self, other):
        if not is_remedy(self._program, other):
            raise BadRemedies(other)
        if other in self._remedies:
            return self
        return Guard(self._program, tuple(sorted([*self._remedies, other])))

    def __sub__(self, other):
        if not is_remedy(self._program, other):
            raise BadRemedies(other)
        if other not in self._remedies:
            raise NotThere(other)
        return Guard(self._program, tuple([remedy for remedy in self._remedies if remedy != other]))

    def __eq__(self, other):
        return isinstance(other, Guard) and self._program == other._program and self._remedies == other._remedies

    def is_within(self, other):
        """Whether another guard has the same program and all remedies of this one."""
        if self._program != other._program:
            return False
        return all([remedy in other._remedies for remedy in self._remedies])

    def left(self, buffers):
        """The live pairs that no remedy of the guard cuts, ascending."""
        return uncut(live_pairs(self._program, buffers), self._remedies)

    def cost(self, price_list):
        """The sum of the prices of the remedies."""
        prices = {remedy: price for remedy, price in price_list}
        for remedy in self._remedies:
            if remedy not in prices:
                raise NotThere(remedy)
        return sum([prices[remedy] for remedy in self._remedies])

    def least(self, buffers):
        """The guard that is left when, from the last remedy on, each one goes that is not needed any more."""
        pairs = live_pairs(self._program, buffers)
        kept = self._remedies
        if uncut(pairs, kept):
            raise Unfaithful()
        for remedy in self._remedies[::-1]:
            fewer = tuple([other for other in kept if other != remedy])
            if not uncut(pairs, fewer):
                kept = fewer
        return Guard(self._program, kept)

    def program_now(self):
        """The program with the remedies."""
        return applied(self._program, self._remedies)
