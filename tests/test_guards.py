"""Guards: sets of remedies for a program."""

import itertools
import random
import unittest

from ringfences.errors import BadProgram, BadRemedies, NotThere, TooLong, Unfaithful
from ringfences.guards import Guard
from ringfences.pairs import is_faithful, live_pairs
from ringfences.prices import is_price_list
from ringfences.remedies import applied, fewest, is_remedies
from tests.helper import BUFFERS, EMPTY, GREATEST, LANES, LINE, MESSAGE, SMALL, THREE, TWO
from tests.helper import all_remedies, cut_pairs, dense_programs, is_all_tuples, listed, subsets, values, varied

CURE = (("fence", 0, 1), ("swap", 1, 0))
SOME = (("line", 1), LINE, ("lanes", 1), LANES)


def some_guards(program, seed, many):
    """Guards of a program with some of its remedies, the same ones at each call."""
    source, whole = random.Random(seed), all_remedies(program)
    return [
        Guard(program, tuple(sorted(source.sample(whole, source.randint(0, len(whole))))))
        for _ in range(many)
    ]


class Made(unittest.TestCase):
    def test_what_it_keeps(self):
        for program in SMALL:
            for remedies in itertools.islice(subsets(all_remedies(program)), 60):
                guard = Guard(program, remedies)
                if list(remedies) == sorted(remedies):
                    self.assertEqual((program, remedies, len(remedies)), (guard.program, guard.remedies, len(guard)))
                    self.assertTrue(is_all_tuples(guard.program) and is_all_tuples(guard.remedies))

    def test_without_remedies(self):
        for program in SMALL:
            self.assertEqual((), Guard(program).remedies)
            self.assertEqual(0, len(Guard(program)))
            self.assertEqual(Guard(program, ()), Guard(program))

    def test_names(self):
        self.assertEqual(Guard(TWO, CURE), Guard(remedies=CURE, program=TWO))
        self.assertEqual(Guard(TWO), Guard(program=TWO))

    def test_read_only(self):
        guard = Guard(TWO, CURE)
        for name, value in (("program", MESSAGE), ("remedies", ()), ("program", TWO)):
            with self.assertRaises(AttributeError):
                setattr(guard, name, value)
            with self.assertRaises(AttributeError):
                delattr(guard, name)
        self.assertEqual((TWO, CURE), (guard.program, guard.remedies))

    def test_no_programs(self):
        near = list(listed(TWO)) + [(), TWO + ((),) * 5, ((("store", "x"),) * 17,), ((("store", "X"),),)]
        for value in values() + near:
            before = repr(value)
            # Some of the values of every kind are programs.
            if before in ("((),)", "((), ())", "((('fence',),),)"):
                self.assertEqual(value, Guard(value).program)
                continue
            for remedies in ((), CURE, None, [], value):
                with self.assertRaises(BadProgram) as held:
                    Guard(value, remedies)
                self.assertEqual(["value"], list(vars(held.exception)))
                self.assertIs(value, held.exception.value)
            self.assertRaises(BadProgram, Guard, value)
            self.assertEqual(before, repr(value))

    def test_no_remedies(self):
        near = list(listed(CURE)) + list(varied(CURE))
        near += [CURE[::-1], CURE + CURE[1:], (("fence", 0, True),), (("fence", False, 1),), (("swap", 0, 1),),
                 (("fence", 0, 3),), (("fence", 2, 0),), CURE[0]]
        refused = 0
        for value in values() + near:
            if is_remedies(TWO, value):
                self.assertEqual(value, Guard(TWO, value).remedies)
                continue
            refused += 1
            with self.assertRaises(BadRemedies) as held:
                Guard(TWO, value)
            self.assertEqual(["value"], list(vars(held.exception)))
            self.assertIs(value, held.exception.value)
        self.assertGreater(refused, 100)

    def test_remedies_of_another_program(self):
        self.assertEqual(1, len(Guard(MESSAGE, (("swap", 0, 1),))))
        self.assertRaises(BadRemedies, Guard, TWO, (("swap", 0, 1),))

    def test_both_wrong(self):
        for value in ([], None, True, ((),) * 7):
            with self.assertRaises(BadProgram) as held:
                Guard(value, [value])
            self.assertIs(value, held.exception.value)


class Contains(unittest.TestCase):
    def test_all_remedies(self):
        for program in SMALL:
            whole = all_remedies(program)
            for guard in some_guards(program, 60, 6):
                for remedy in whole:
                    self.assertIs(remedy in guard.remedies, remedy in guard)
                    self.assertIs(remedy not in guard.remedies, remedy not in guard)

    def test_any_value(self):
        guard = Guard(TWO, (("fence", 0, 0), ("fence", 0, 1), ("fence", 1, 0), ("fence", 1, 1), ("swap", 0, 0)))
        for remedy in guard.remedies:
            for value in listed(remedy):
                self.assertIs(False, value in guard, value)
            for value in varied(remedy):
                wanted = any(repr(value) == repr(other) for other in guard.remedies)
                self.assertIs(wanted, value in guard, value)
        for value in values() + [guard, guard.remedies, TWO]:
            self.assertIs(False, value in guard, value)
            self.assertIs(type(value) is int and value in (0, 1), ("fence", 0, value) in guard, value)
            self.assertIs(type(value) is int and value in (0, 1), ("fence", value, 0) in guard, value)
            self.assertIs(False, (value, 0, 1) in guard and value != "fence", value)

    def test_booleans(self):
        guard = Guard(TWO, (("fence", 0, 1), ("fence", 1, 0)))
        for value in (("fence", False, 1), ("fence", 0, True), ("fence", True, 0), ("fence", 1, False)):
            self.assertIs(False, value in guard)


class Added(unittest.TestCase):
    def test_every_remedy(self):
        for program in (TWO, MESSAGE, THREE):
            for guard in some_guards(program, 61, 8):
                before = guard.remedies
                for remedy in all_remedies(program):
                    more = guard + remedy
                    self.assertIsInstance(more, Guard)
                    self.assertEqual(program, more.program)
                    self.assertEqual(tuple(sorted(set(before) | {remedy})), more.remedies)
                    self.assertIs(remedy in before, more == guard)
                    # The elder guard stays as it is.
                    self.assertEqual(before, guard.remedies)
                    again = more + remedy
                    self.assertEqual((more, len(more)), (again, len(again)))

    def test_in_any_order(self):
        whole = all_remedies(TWO)[:4]
        for order in itertools.permutations(whole):
            guard = Guard(TWO)
            for remedy in order:
                guard = guard + remedy
            self.assertEqual(tuple(whole), guard.remedies)
        guard = held = Guard(TWO)
        guard += CURE[0]
        self.assertEqual((CURE[:1], ()), (guard.remedies, held.remedies))

    def test_no_remedies(self):
        guard = Guard(TWO, CURE)
        near = list(listed(CURE[0])) + [CURE, ("fence", 0, 3), ("fence", 2, 0), ("swap", 0, 1), ("fence", 0, True),
                                        ("fence", False, 1), ("fence", 0, -1), ("fence", 0), ("fence", 0, 1, 0), guard]
        for value in values() + near:
            for act in (lambda: guard + value, lambda: guard - value):
                with self.assertRaises(BadRemedies) as held:
                    act()
                self.assertEqual(["value"], list(vars(held.exception)))
                self.assertIs(value, held.exception.value)
        self.assertEqual(Guard(TWO, CURE), guard)


class Taken(unittest.TestCase):
    def test_every_remedy(self):
        for program in (TWO, MESSAGE, THREE):
            for guard in some_guards(program, 62, 8):
                before = guard.remedies
                for remedy in all_remedies(program):
                    if remedy not in before:
                        for _ in range(2):
                            with self.assertRaises(NotThere) as held:
                                guard - remedy
                            self.assertEqual({"remedy": remedy}, vars(held.exception))
                        continue
                    less = guard - remedy
                    self.assertIsInstance(less, Guard)
                    self.assertEqual(program, less.program)
                    self.assertEqual(tuple(other for other in before if other != remedy), less.remedies)
                    self.assertEqual(before, guard.remedies)
                    self.assertEqual(guard, less + remedy)
                    self.assertRaises(NotThere, lambda: less - remedy)

    def test_what_is_none_comes_first(self):
        # Of the program there is no such remedy, and the guard does not have it either.
        self.assertRaises(BadRemedies, lambda: Guard(TWO) - ("fence", 0, True))
        self.assertRaises(BadRemedies, lambda: Guard(TWO, (("fence", 0, 1),)) - ("fence", 0, True))
        self.assertRaises(NotThere, lambda: Guard(TWO) - ("fence", 0, 1))


class Equal(unittest.TestCase):
    def test_programs_and_remedies(self):
        guards = [Guard(program, remedies) for program in (TWO, MESSAGE, TWO[::-1])
                  for remedies in ((), CURE[:1], (("fence", 1, 1),), (("fence", 0, 1), ("fence", 1, 1)))]
        for at, guard in enumerate(guards):
            for number, other in enumerate(guards):
                self.assertIs(at == number, guard == other)
                self.assertIs(at != number, guard != other)
            self.assertTrue(guard == Guard(guard.program, guard.remedies))
            self.assertFalse(guard != Guard(guard.program, guard.remedies))

    def test_nothing_else(self):
        for guard in (Guard(TWO), Guard(TWO, CURE)):
            for value in values() + [TWO, CURE, (TWO, CURE), guard.remedies, Guard]:
                self.assertIs(False, guard == value)
                self.assertIs(True, guard != value)
                self.assertIs(False, value == guard)


class Within(unittest.TestCase):
    def test_all_sets(self):
        whole = all_remedies(TWO)[:4]
        for remedies in subsets(whole):
            for others in subsets(whole):
                wanted = set(remedies) <= set(others)
                self.assertIs(wanted, Guard(TWO, remedies).is_within(Guard(TWO, others)))
                self.assertIs(wanted, Guard(TWO, remedies).is_within(other=Guard(TWO, others)))

    def test_other_programs(self):
        self.assertIs(False, Guard(TWO).is_within(Guard(MESSAGE)))
        self.assertIs(False, Guard(TWO).is_within(Guard(TWO[::-1], CURE)))
        guard = Guard(MESSAGE, CURE[:1])
        self.assertIs(True, guard.is_within(guard))
        self.assertIs(False, Guard(TWO, CURE[:1]).is_within(guard))


class Left(unittest.TestCase):
    def test_pairs_that_are_not_cut(self):
        for program in SMALL + tuple(dense_programs(15, 63)):
            for guard in some_guards(program, 64, 5):
                for buffers in SOME:
                    live = live_pairs(program, buffers)
                    cut = cut_pairs(guard.remedies, live)
                    left = tuple(pair for pair in live if pair not in cut)
                    self.assertEqual(left, guard.left(buffers))
                    self.assertEqual(left, guard.left(buffers=buffers))
                    self.assertTrue(is_all_tuples(guard.left(buffers)))

    def test_without_remedies(self):
        for program in SMALL:
            for buffers in BUFFERS:
                self.assertEqual(live_pairs(program, buffers), Guard(program).left(buffers))
                for word in ("fence", "swap"):
                    self.assertEqual((), Guard(program, fewest(program, buffers, word)).left(buffers))


class Cost(unittest.TestCase):
    PRICES = ((("fence", 0, 0), 0), (("fence", 0, 1), 3), (("fence", 1, 1), 1000), (("swap", 0, 0), 7))

    def test_sums(self):
        self.assertTrue(is_price_list(TWO, self.PRICES))
        for chosen in subsets(self.PRICES):
            guard = Guard(TWO, tuple(remedy for remedy, _ in chosen))
            self.assertEqual(sum(price for _, price in chosen), guard.cost(self.PRICES))
            self.assertEqual(sum(price for _, price in chosen), guard.cost(price_list=self.PRICES))
        self.assertEqual(0, Guard(TWO).cost(()))

    def test_the_first_one_that_is_missing(self):
        whole = all_remedies(TWO)
        for remedies in subsets(whole):
            for listed_ones in (whole[:3], whole[2:], whole[::2], []):
                price_list = tuple((remedy, 2) for remedy in listed_ones)
                missing = [remedy for remedy in remedies if remedy not in listed_ones]
                guard = Guard(TWO, remedies)
                if missing:
                    with self.assertRaises(NotThere) as held:
                        guard.cost(price_list)
                    self.assertEqual({"remedy": missing[0]}, vars(held.exception))
                else:
                    self.assertEqual(2 * len(remedies), guard.cost(price_list))


class Least(unittest.TestCase):
    def check(self, guard, buffers):
        before = guard.remedies
        if guard.left(buffers):
            with self.assertRaises(Unfaithful) as held:
                guard.least(buffers)
            self.assertEqual({}, vars(held.exception))
            return False
        wanted = guard
        for remedy in guard.remedies[::-1]:
            if not (wanted - remedy).left(buffers):
                wanted = wanted - remedy
        found = guard.least(buffers=buffers)
        self.assertEqual(wanted, found)
        self.assertIsInstance(found, Guard)
        self.assertIs(True, found.is_within(guard))
        self.assertEqual((), found.left(buffers))
        for remedy in found.remedies:
            self.assertNotEqual((), (found - remedy).left(buffers))
        self.assertEqual(before, guard.remedies)
        return True

    def test_from_the_last_one_to_the_first(self):
        guard = Guard(TWO) + ("fence", 0, 1) + ("swap", 1, 0) + ("fence", 1, 2) + ("fence", 1, 1) + ("swap", 0, 0)
        self.assertEqual((("fence", 0, 1), ("fence", 1, 1)), guard.least(LINE).remedies)
        self.assertTrue(self.check(guard, LINE))
        self.assertEqual((), Guard(MESSAGE, (("fence", 0, 1),)).least(LINE).remedies)
        self.assertEqual((("fence", 0, 1),), Guard(MESSAGE, (("fence", 0, 1), ("swap", 0, 0))).least(LANES).remedies)

    def test_drawn_guards(self):
        many = {True: 0, False: 0}
        for program in SMALL + tuple(dense_programs(25, 65)):
            for guard in some_guards(program, 66, 4) + [Guard(program), Guard(program, tuple(all_remedies(program)))]:
                for buffers in SOME:
                    many[self.check(guard, buffers)] += 1
        self.assertGreater(min(many.values()), 50)

    def test_an_empty_guard(self):
        for program in SMALL:
            for buffers in BUFFERS:
                if is_faithful(program, buffers):
                    self.assertEqual(Guard(program), Guard(program).least(buffers))
                else:
                    self.assertRaises(Unfaithful, Guard(program).least, buffers)


class ProgramNow(unittest.TestCase):
    def test_applied(self):
        for program in SMALL:
            for guard in some_guards(program, 67, 8):
                found = guard.program_now()
                self.assertEqual(applied(program, guard.remedies), found)
                self.assertEqual(program, guard.program)
                for buffers in SOME:
                    self.assertIs(guard.left(buffers) == (), is_faithful(found, buffers))

    def test_too_long(self):
        guard = Guard(GREATEST, (("fence", 2, 5),))
        for _ in range(2):
            with self.assertRaises(TooLong) as held:
                guard.program_now()
            self.assertEqual({"limit": 16}, vars(held.exception))
        self.assertEqual((("fence", 2, 5),), guard.remedies)
        self.assertEqual(("swap", "f"), (Guard(GREATEST) + ("swap", 2, 5)).program_now()[2][5])

    def test_at_the_bounds(self):
        whole = Guard(GREATEST, tuple(all_remedies(GREATEST)))
        self.assertEqual(6 * 33, len(whole))
        self.assertEqual((), whole.left(LANES))
        # Swaps go first, then the fences that keep nothing apart: the first ones and the last ones of each thread.
        self.assertEqual(tuple(("fence", thread, at) for thread in range(6) for at in range(1, 16)),
                         whole.least(LANES).remedies)
        self.assertEqual((), whole.least(LINE).remedies)
        self.assertEqual((), Guard(EMPTY).least(LANES).remedies)
