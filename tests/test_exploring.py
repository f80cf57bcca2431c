"""Small programs, explored completely: their stories, and how many there are."""

import inspect
import unittest

from ringfences.errors import TooMany
from ringfences.exploring import plain_count, stories, story_count
from ringfences.pairs import is_faithful
from ringfences.runs import completed
from ringfences.stories import is_story, plain_order, shows_story_ring, story_of, story_ring
from tests.helper import EMPTY, GREATEST, LANES, LINE, MESSAGE, SMALL, THREE, TWO
from tests.helper import Model, dense_programs, is_all_tuples, plain_stories, random_programs, situations

SOME = (("line", 1), ("line", 2), LINE, ("lanes", 1), ("lanes", 2), LANES)


def store(variable):
    return ("store", variable)


def load(variable):
    return ("load", variable)


def swap(variable):
    return ("swap", variable)


# Threads that share no variable have all combinations of their situations, so that the numbers multiply.
# Two stores to one variable, with room 1: nothing, a store waits, it is in memory, the next one waits, both are in.
FIVES = tuple((store(name), store(name)) for name in "abcd")
EXACT = FIVES + ((load("e"),) * 15, (load("f"),))
# 59, 113 and 3 situations, 20001 in all.
FIFTY_NINE = ((store("a"), swap("a"), store("a")), (store("a"), load("a")))
WITH_LINES = ((store("b"), store("b")), (swap("b"), store("b"), load("b"), store("b")))
WITH_LANES = ((swap("c"), store("c")), (load("c"), store("c"), store("c"), load("d")))
# In plain runs a store has two situations, and two stores of two threads to one variable have five.
PLAIN_EXACT = (
    (store("a"),), (store("a"),), (load("b"),) * 15, (store("c"),) * 9, (swap("d"),) * 4, (("fence",),) * 4,
)
PLAIN_FIFTY_NINE = ((store("a"), store("b"), load("a"), load("a")), (store("a"), store("b"), store("b")))
PLAIN_REST = (
    (swap("c"), store("c"), load("d"), load("d")), (load("c"), swap("d"), load("c"), store("c")),
)


def found_stories(program, buffers):
    """The stories of all complete runs, by a search over all situations of a model."""
    return {model.story() for _, model in situations(program, buffers) if model.is_complete()}


def plain_situations(program):
    """The situations of plain runs that do not end between a store and its flush, by a search."""
    left = [Model(program, ("line", 1))]
    found = {left[0].situation()}
    while left:
        model = left.pop()
        for thread, rows in enumerate(program):
            if model.done[thread] < len(rows):
                later, row = model.copy(), rows[model.done[thread]]
                wrong = later.make(("do", thread))
                if row[0] == "store":
                    wrong = wrong or later.make(("flush", thread, row[1]))
                if wrong:
                    raise AssertionError(wrong)
                if later.situation() not in found:
                    found.add(later.situation())
                    left.append(later)
    return found


class Stories(unittest.TestCase):
    def check(self, program, buffers):
        wanted = found_stories(program, buffers)
        found = list(stories(program, buffers))
        self.assertEqual(len(wanted), story_count(program, buffers), (program, buffers))
        self.assertEqual(len(wanted), len(found))
        self.assertEqual(wanted, set(found))
        self.assertEqual(found, list(stories(program, buffers)))
        for story in found[:20]:
            self.assertTrue(is_all_tuples(story))
            self.assertIs(True, is_story(program, story))
        return wanted

    def test_small_programs(self):
        for program in SMALL[:4] + SMALL[5:]:
            if len(found_stories(program, ("line", 1))) < 500:
                for buffers in SOME:
                    self.check(program, buffers)

    def test_drawn_programs(self):
        for program in random_programs(12, 40, 5) + dense_programs(12, 41, 2, 3):
            for buffers in (("line", 1), LINE, ("lanes", 1), LANES):
                self.check(program, buffers)

    def test_numbers(self):
        for buffers in SOME:
            self.assertEqual(4, story_count(TWO, buffers))
            self.assertEqual(4 if buffers[0] == "lanes" else 3, story_count(MESSAGE, buffers))
            self.assertEqual(1, story_count(EMPTY, buffers))
            self.assertEqual([((), ())], list(stories(EMPTY, buffers)))
            self.assertEqual([((), ())], list(stories(((("fence",),) * 3, ()), buffers)))

    def test_swaps_fences_and_rows_of_stores(self):
        for program in (
            ((swap("x"), swap("x")), (swap("x"),)),
            ((store("x"), ("fence",), load("y")), (store("y"), ("fence",), load("x"))),
            ((store("x"), swap("y"), load("x")), (store("y"), store("x"))),
            ((store("x"), store("x"), load("x")), (store("x"), load("x"))),
        ):
            for buffers in SOME:
                self.check(program, buffers)

    def test_is_a_generator(self):
        self.assertTrue(inspect.isgeneratorfunction(stories))
        held = stories(TWO, LINE)
        first = next(held)
        self.assertEqual([first] + list(held), list(stories(TWO, LINE)))
        self.assertRaises(StopIteration, next, held)

    def test_two_generators_at_once(self):
        one, other = stories(TWO, LINE), stories(TWO, LINE)
        self.assertEqual([(story, story) for story in stories(TWO, LINE)], list(zip(one, other)))

    def test_stories_of_runs(self):
        for program in (TWO, MESSAGE, THREE):
            for buffers in (LINE, LANES):
                known = set(stories(program, buffers))
                for run, _ in situations(program, buffers):
                    self.assertIn(story_of(program, buffers, completed(program, buffers, run)), known)


class Plain(unittest.TestCase):
    def test_against_all_orders(self):
        for program in (TWO, MESSAGE, THREE, EMPTY, FIFTY_NINE) + tuple(random_programs(15, 42, 6)):
            self.assertEqual(len(plain_stories(program)), plain_count(program), program)

    def test_plain_ones_among_all(self):
        # Point [3] (c) and (g): plain stories are those without a ring; less waiting tells no further stories.
        for program in (TWO, MESSAGE, THREE) + tuple(random_programs(10, 43, 6) + dense_programs(10, 44, 2, 3)):
            plain = set(plain_stories(program))
            self.assertEqual(len(plain), plain_count(program))
            known = {}
            for buffers in SOME:
                known[buffers] = set(stories(program, buffers))
                self.assertLessEqual(plain, known[buffers])
                self.assertGreaterEqual(story_count(program, buffers), plain_count(program))
                self.assertIs(known[buffers] == plain, is_faithful(program, buffers))
                for story in known[buffers]:
                    ring = story_ring(program, story)
                    self.assertIs(story in plain, ring is None)
                    self.assertIs(story in plain, plain_order(program, story) is not None)
                    self.assertTrue(ring is None or shows_story_ring(program, story, ring))
            for word in ("line", "lanes"):
                self.assertLessEqual(known[word, 1], known[word, 2])
                self.assertLessEqual(known[word, 2], known[word, 4])
            for room in (1, 2, 4):
                self.assertLessEqual(known["line", room], known["lanes", room])

    def test_numbers(self):
        self.assertEqual(3, plain_count(TWO))
        self.assertEqual(3, plain_count(MESSAGE))
        self.assertEqual(1, plain_count(EMPTY))
        self.assertEqual(6, plain_count(((swap("x"),), (swap("x"),), (store("x"),))))


class Limit(unittest.TestCase):
    def check_too_many(self, program, buffers):
        for _ in range(2):
            with self.assertRaises(TooMany) as held:
                story_count(program, buffers)
            self.assertEqual({"limit": 20000}, vars(held.exception))
        # The call alone raises nothing.
        asked = stories(program, buffers)
        with self.assertRaises(TooMany) as held:
            next(asked)
        self.assertEqual({"limit": 20000}, vars(held.exception))
        self.assertRaises(StopIteration, next, asked)

    def test_the_parts_have_the_numbers_that_are_multiplied(self):
        for buffers in (("line", 1), ("lanes", 1)):
            for rows in FIVES:
                self.assertEqual(5, len(list(situations((rows,), buffers))))
            self.assertEqual(16, len(list(situations(EXACT[4:5], buffers))))
            self.assertEqual(59, len(list(situations(FIFTY_NINE, buffers))))
        self.assertEqual(113, len(list(situations(WITH_LINES, ("line", 1)))))
        for buffers in (("line", 2), ("lanes", 2)):
            self.assertEqual(59, len(list(situations(FIFTY_NINE, buffers))))
            self.assertEqual(113, len(list(situations(WITH_LANES, buffers))))
        self.assertEqual(5, len(plain_situations(PLAIN_EXACT[:2])))
        self.assertEqual(10, len(plain_situations(PLAIN_EXACT[3:4])))
        self.assertEqual(59, len(plain_situations(PLAIN_FIFTY_NINE)))
        self.assertEqual(113, len(plain_situations(PLAIN_REST)))

    def test_exactly_the_limit(self):
        for buffers in (("line", 1), ("lanes", 1)):
            self.assertEqual(1, story_count(EXACT, buffers))
            self.assertEqual([story_of(EXACT, buffers, completed(EXACT, buffers, ()))], list(stories(EXACT, buffers)))

    def test_one_more(self):
        self.check_too_many(FIFTY_NINE + WITH_LINES + ((store("e"),),), ("line", 1))
        for word in ("line", "lanes"):
            self.check_too_many(FIFTY_NINE + WITH_LANES + ((store("e"),),), (word, 2))
        # The same without the last thread, and with two situations of it.
        program = FIFTY_NINE + WITH_LINES
        self.assertEqual(
            story_count(FIFTY_NINE, ("line", 1)) * story_count(WITH_LINES, ("line", 1)),
            story_count(program, ("line", 1)),
        )
        self.assertEqual(
            story_count(program, ("line", 1)), story_count(program + ((load("e"),),), ("line", 1)))

    def test_more(self):
        self.check_too_many(FIVES + ((load("e"),) * 15, (load("f"),) * 2), ("line", 1))
        self.check_too_many(EXACT, ("line", 2))

    def test_plain_ones(self):
        self.assertEqual(2, plain_count(PLAIN_EXACT))
        program = PLAIN_FIFTY_NINE + PLAIN_REST
        wanted = plain_count(PLAIN_FIFTY_NINE) * plain_count(PLAIN_REST)
        self.assertEqual(wanted, plain_count(program))
        self.assertEqual(wanted, plain_count(program + ((load("e"),),)))
        for more in (program + ((load("e"), load("e")),), PLAIN_EXACT[:5] + ((("fence",),) * 5,)):
            for _ in range(2):
                with self.assertRaises(TooMany) as held:
                    plain_count(more)
                self.assertEqual({"limit": 20000}, vars(held.exception))

    def test_plain_ones_of_programs_with_too_many_others(self):
        # Waiting stores make no situations of plain runs.
        self.check_too_many(PLAIN_EXACT, LINE)
        self.assertEqual(1, plain_count(tuple((store(name),) * 4 for name in "abcdef")))

    def test_at_the_bounds(self):
        self.check_too_many(GREATEST, ("line", 1))
        for program in (GREATEST, ((load("a"),) * 16,) * 6, ((("fence",),) * 16,) * 6):
            self.assertRaises(TooMany, story_count, program, ("lanes", 16))
            self.assertRaises(TooMany, plain_count, program)

    def test_long_threads_with_few_situations(self):
        # One load sees as many swaps as were made ahead of it.
        program = ((swap("a"),) * 16, (load("a"),)) + ((),) * 4
        for buffers in (("line", 1), ("line", 16), ("lanes", 1), ("lanes", 16)):
            self.assertEqual(17, story_count(program, buffers))
            self.assertEqual(found_stories(program, buffers), set(stories(program, buffers)))
            self.assertEqual(1, story_count(((store("a"),) * 16,), buffers))
        # The stores of a thread come to memory one after the other.
        program = ((store("a"),) * 16, (load("a"), load("a")))
        self.assertEqual(17 * 18 // 2, story_count(program, ("line", 16)))
        self.assertEqual(17 * 18 // 2, story_count(program, ("lanes", 1)))
        self.assertEqual(17 * 18 // 2, plain_count(program))
