"""Stories: what runs read, the orders of stores, and whether a plain run has the same."""

import itertools
import unittest

from ringfences.errors import Incomplete
from ringfences.runs import completed, is_complete, is_plain, is_run
from ringfences.stories import is_story, plain_order, shows_plain, shows_story_ring, story_of, story_ring
from tests.helper import BUFFERS, EMPTY, LANES, LINE, MESSAGE, MIXED, SMALL, THREE, TWO
from tests.helper import forms, has_ring, is_all_tuples, is_ring, listed, plain_stories, random_programs
from tests.helper import situations, values, varied

RUN = (("do", 0), ("do", 0), ("do", 1), ("do", 1), ("flush", 0, "x"), ("flush", 1, "y"))
STORY = ((((0, 1), None), ((1, 1), None)), (("x", ((0, 0),)), ("y", ((1, 0),))))
OTHER = ((((0, 1), (1, 0)), ((1, 1), None)), STORY[1])
SWAPS = ((("swap", "x"), ("store", "x")), (("swap", "x"), ("load", "x")))
FENCES = ((("fence",), ("store", "x"), ("fence",), ("load", "y")), (("fence",), ("store", "y"), ("fence",)))
TINY = (
    TWO, MESSAGE, SWAPS, FENCES,
    ((("store", "x"), ("store", "x"), ("load", "x")), (("load", "x"),)),
    ((("load", "x"),), (("load", "x"), ("load", "y")), (("store", "x"),)),
    ((("store", "x"),), (("load", "x"), ("load", "y")), (("store", "y"),), (("load", "y"), ("load", "x"))),
    ((("swap", "y"),), (("swap", "y"),), (("swap", "y"),)),
)
NOTHING = (((),), EMPTY, ((),) * 6, ((("fence",),),), ((("fence",), ("fence",)), (("fence",),)))


def relations(program, story):
    """The relations of a story, case by case as point [7] words them."""
    reads, orders = dict(story[0]), dict(story[1])
    rows = {(thread, at): row for thread, rows in enumerate(program) for at, row in enumerate(rows) if len(row) == 2}
    found = set()
    for p, q in itertools.permutations(rows, 2):
        if p[0] == q[0] and p[1] < q[1] or reads.get(q) == p:
            found.add((p, q))
        order = orders[rows[p][1]]
        if rows[p][1] != rows[q][1] or q not in order:
            continue
        if p in order and order.index(p) < order.index(q):
            found.add((p, q))
        if p in reads and (reads[p] is None or order.index(reads[p]) < order.index(q)):
            found.add((p, q))
    return found


class StoryOf(unittest.TestCase):
    def check(self, program, buffers, run, reads, orders):
        self.assertEqual((reads, orders), story_of(program, buffers, run))

    def test_memory_and_nothing(self):
        self.check(TWO, LINE, RUN, STORY[0], STORY[1])
        run = (("do", 1), ("flush", 1, "y"), ("do", 0), ("do", 0), ("do", 1), ("flush", 0, "x"))
        self.check(TWO, LANES, run, OTHER[0], OTHER[1])

    def test_own_waiting_store(self):
        program = ((("store", "x"), ("load", "x")), (("store", "x"),))
        orders = (("x", ((1, 0), (0, 0))),)
        for buffers in BUFFERS:
            run = (("do", 0), ("do", 1), ("flush", 1, "x"), ("do", 0), ("flush", 0, "x"))
            self.check(program, buffers, run, (((0, 1), (0, 0)),), orders)
            # The other thread's store came to memory last.
            run = (("do", 0), ("do", 1), ("flush", 0, "x"), ("flush", 1, "x"), ("do", 0))
            self.check(program, buffers, run, (((0, 1), (1, 0)),), (("x", ((0, 0), (1, 0))),))

    def test_newest_own_waiting_store(self):
        program = ((("store", "x"), ("store", "y"), ("store", "x"), ("load", "x"), ("load", "y")),)
        run = (("do", 0),) * 5 + (("flush", 0, "x"), ("flush", 0, "y"), ("flush", 0, "x"))
        reads = (((0, 3), (0, 2)), ((0, 4), (0, 1)))
        self.check(program, LINE, run, reads, (("x", ((0, 0), (0, 2))), ("y", ((0, 1),))))

    def test_another_threads_store_that_waits_is_not_read(self):
        program = ((("store", "x"),), (("load", "x"), ("load", "x")))
        run = (("do", 0), ("do", 1), ("flush", 0, "x"), ("do", 1))
        self.check(program, LINE, run, (((1, 0), None), ((1, 1), (0, 0))), (("x", ((0, 0),)),))

    def test_swaps(self):
        run = (("do", 1), ("do", 0), ("do", 0), ("do", 1), ("flush", 0, "x"))
        reads = (((0, 0), (1, 0)), ((1, 0), None), ((1, 1), (0, 0)))
        for buffers in BUFFERS:
            self.check(SWAPS, buffers, run, reads, (("x", ((1, 0), (0, 0), (0, 1))),))

    def test_orders_of_lanes(self):
        program = ((("store", "x"), ("store", "y"), ("store", "x")), (("store", "x"),))
        run = (("do", 0),) * 3 + (("do", 1), ("flush", 0, "x"), ("flush", 1, "x"), ("flush", 0, "x"), ("flush", 0, "y"))
        self.check(program, LANES, run, (), (("x", ((0, 0), (1, 0), (0, 2))), ("y", ((0, 1),))))

    def test_a_variable_without_stores(self):
        self.check(((("load", "b"), ("load", "a")),), LINE, (("do", 0),) * 2,
                   (((0, 0), None), ((0, 1), None)), (("a", ()), ("b", ())))

    def test_nothing_to_tell(self):
        for program in NOTHING:
            run = tuple(("do", thread) for thread, rows in enumerate(program) for _ in rows)
            self.check(program, LINE, run, (), ())

    def test_incomplete(self):
        for program, buffers, run in ((TWO, LINE, ()), (TWO, LINE, RUN[:5]), (NOTHING[3], LANES, ())):
            with self.assertRaises(Incomplete) as held:
                story_of(program, buffers, run)
            self.assertEqual({}, vars(held.exception))

    def test_as_the_model(self):
        for program in SMALL:
            for buffers in BUFFERS:
                for run, model in situations(program, buffers, 120):
                    if model.is_complete():
                        self.assertEqual(model.story(), story_of(program, buffers, run))
                        continue
                    with self.assertRaises(Incomplete):
                        story_of(program, buffers, run)

    def test_all_stories_of_small_programs(self):
        for program in TINY + SMALL:
            for run, model in situations(program, LANES):
                if model.is_complete():
                    story = story_of(program, LANES, run)
                    self.assertEqual(model.story(), story)
                    self.assertTrue(is_all_tuples(story))
                    self.assertIs(True, is_story(program, story))


class IsStory(unittest.TestCase):
    def test_all_forms(self):
        for program in TINY + NOTHING:
            many = 0
            for story in forms(program):
                self.assertIs(True, is_story(program, story), story)
                many += 1
            self.assertGreater(many, 0)

    def test_forms_that_no_run_has(self):
        reads = (((0, 0), (0, 1)), ((1, 0), (0, 0)), ((1, 1), (1, 0)))
        self.assertIs(True, is_story(SWAPS, (reads, (("x", ((0, 1), (1, 0), (0, 0))),))))
        program = ((("load", "x"), ("store", "x"), ("store", "x")),)
        self.assertIs(True, is_story(program, ((((0, 0), (0, 2)),), (("x", ((0, 2), (0, 1))),))))

    def test_wrong_sources(self):
        program = ((("load", "x"), ("store", "x"), ("store", "y")), (("swap", "x"), ("load", "x"), ("fence",)))
        orders = (("x", ((0, 1), (1, 0))), ("y", ((0, 2),)))
        sources = [None, 0, "", (), (0,), (0, 1, 0), [0, 1], ((0, 1),), {}]
        for source in sources + list(itertools.product((-1, 0, 1, 2), (-2, -1, 0, 1, 2, 3, True, False))):
            right = repr(source) in ("None", "(0, 1)", "(1, 0)")
            reads = (((0, 0), source), ((1, 0), None), ((1, 1), None))
            self.assertIs(right, is_story(program, (reads, orders)), source)
            # A swap does not read itself.
            reads = (((0, 0), None), ((1, 0), source), ((1, 1), None))
            self.assertIs(right and source != (1, 0), is_story(program, (reads, orders)), source)

    def test_wrong_reads(self):
        first, second = STORY[0]
        for reads in ((), (first,), (second,), (second, first), (first, first), (first, second, second),
                      (first, second, ((0, 0), None)), (((0, 0), None), second), (first[0], second[0]),
                      (first[:1], second), (first + (None,), second), (None, second), ((None, None), second),
                      (((0, 1, 0), None), second), (((0, True), None), second), (first, ((True, 1), None)),
                      (((0, -1), None), second), (((-2, 1), None), second)):
            self.assertIs(False, is_story(TWO, (reads, STORY[1])), reads)

    def test_wrong_orders(self):
        first, second = STORY[1]
        for orders in ((), (first,), (second,), (second, first), (first, first), (first, second, second),
                       (first, second, ("z", ())), (("y", first[1]), second), (("x", second[1]), second),
                       (("x", ()), second), (("x", first[1] * 2), second), (("x", first[1] + ((0, 1),)), second),
                       (("x", ((0, False),)), second), (("x", ((False, 0),)), second), (("x", (0, 0)), second),
                       (("x", None), second), ((None, first[1]), second), (("xx", first[1]), second),
                       (("x",), second), (("x", first[1], None), second), (("x", ((1, 1),)), second),
                       (("x", ((-2, 0),)), second), (("x", ((0, 0, 0),)), second), ("x", second)):
            self.assertIs(False, is_story(TWO, (STORY[0], orders)), orders)

    def test_places_in_the_orders(self):
        program = ((("store", "x"), ("store", "x")), (("swap", "x"), ("load", "x"), ("store", "y")))
        reads = (((1, 0), None), ((1, 1), None))
        places = ((0, 0), (0, 1), (1, 0), (1, 1), (1, 2))
        right = set(itertools.permutations(places[:3]))
        for many in range(5):
            for order in itertools.product(places, repeat=many):
                value = (reads, (("x", order), ("y", ((1, 2),))))
                self.assertIs(order in right, is_story(program, value), value)

    def test_near_values(self):
        for program, story in ((TWO, STORY), (TWO, OTHER), (SWAPS, next(forms(SWAPS)))):
            right = {repr(form) for form in forms(program)}
            many = 0
            for value in varied(story):
                wanted = repr(value) in right
                self.assertIs(wanted, is_story(program, value), value)
                many += wanted
            self.assertGreater(many, 0)

    def test_lists(self):
        for program in (TWO, SWAPS, MIXED):
            story = story_of(program, LINE, completed(program, LINE, ()))
            for value in listed(story):
                self.assertIs(False, is_story(program, value), value)

    def test_other_forms(self):
        for value in (STORY + ((),), STORY[:1], STORY[::-1], STORY[0], (STORY,), (STORY[0], None), (None, STORY[1])):
            self.assertIs(False, is_story(TWO, value), value)
        self.assertIs(False, is_story(MESSAGE, STORY))
        self.assertIs(False, is_story(((("fence",),),), STORY))

    def test_any_value(self):
        for value in values():
            before = repr(value)
            self.assertIs(False, is_story(TWO, value), value)
            self.assertIs(before == "((), ())", is_story(EMPTY, value), value)
            for near in ((value, STORY[1]), (STORY[0], value), (STORY[0], (value, STORY[1][1])), ((value,) * 2, ())):
                self.assertIs(False, is_story(TWO, near), near)
            near = ((((0, 1), value), STORY[0][1]), STORY[1])
            self.assertIs(value is None, is_story(TWO, near), value)
            near = (((value, None), STORY[0][1]), STORY[1])
            self.assertIs(False, is_story(TWO, near), value)
            near = (STORY[0], ((value, ((0, 0),)), STORY[1][1]))
            self.assertIs(value == "x", is_story(TWO, near), value)
            near = (STORY[0], (("x", (value,)), STORY[1][1]))
            self.assertIs(before == "(0, 0)", is_story(TWO, near), value)
            near = (STORY[0], (("x", value), STORY[1][1]))
            self.assertIs(False, is_story(TWO, near), value)
            self.assertEqual(before, repr(value))


class OrdersAndRings(unittest.TestCase):
    """For each story either an order of a plain run or a ring, and never both."""

    def check(self, program, story, wanted):
        order, ring = plain_order(program, story), story_ring(program, story)
        self.assertIs(wanted, order is not None, story)
        self.assertIs(wanted, ring is None, story)
        self.assertIs(not wanted, has_ring(relations(program, story)))
        if wanted:
            self.assertTrue(is_all_tuples(order))
            self.assertEqual(sorted(t for t, rows in enumerate(program) for _ in rows), sorted(order))
            self.assertIs(True, shows_plain(program, story, order))
        else:
            self.assertTrue(is_ring(relations(program, story), ring))
            self.assertTrue(is_all_tuples(ring))
            self.assertIs(True, shows_story_ring(program, story, ring))

    def test_all_stories_of_tiny_programs(self):
        many = {True: 0, False: 0}
        for program in TINY + NOTHING:
            plain = plain_stories(program)
            for story in forms(program):
                self.check(program, story, story in plain)
                many[story in plain] += 1
                if story in plain:
                    self.assertIn(plain_order(program, story), plain[story])
        self.assertGreater(many[True], 40)
        self.assertGreater(many[False], 300)

    def test_stories_of_runs(self):
        for program in SMALL + tuple(random_programs(12, 1)):
            plain = plain_stories(program)
            for buffers in (("line", 2), ("lanes", 1)):
                for story in {model.story() for _, model in situations(program, buffers) if model.is_complete()}:
                    self.check(program, story, story in plain)

    def test_plain_runs_and_their_orders(self):
        for program in TINY:
            for story, orders in plain_stories(program).items():
                for order in orders:
                    run = plain_run(program, order)
                    self.assertIs(True, is_run(program, LINE, run) and is_complete(program, LINE, run))
                    self.assertIs(True, is_plain(program, LINE, run))
                    self.assertEqual(story, story_of(program, LINE, run))

    def test_nothing_to_order(self):
        for program in NOTHING[:3]:
            self.assertEqual((), plain_order(program, ((), ())))
            self.assertIs(True, shows_plain(program, ((), ()), ()))
            self.assertIsNone(story_ring(program, ((), ())))

    def test_fences_are_in_the_order(self):
        self.assertEqual((0, 0), plain_order(((("fence",), ("fence",)),), ((), ())))
        story = story_of(FENCES, LINE, completed(FENCES, LINE, ()))
        order = plain_order(FENCES, story)
        self.assertEqual([4, 3], [order.count(0), order.count(1)])
        self.assertIs(False, shows_plain(FENCES, story, tuple(order[:-1])))


def plain_run(program, order):
    """The plain run that does the next instruction of each of these threads in turn."""
    rest = [list(rows) for rows in program]
    steps = []
    for thread in order:
        row = rest[thread].pop(0)
        steps.append(("do", thread))
        if row[0] == "store":
            steps.append(("flush", thread, row[1]))
    return tuple(steps)


class ShowsPlain(unittest.TestCase):
    def test_all_orders(self):
        for program in (TWO, MESSAGE, SWAPS, THREE):
            plain = plain_stories(program)
            many = sum(len(rows) for rows in program)
            for story in sorted(plain, key=repr):
                for order in itertools.product(range(len(program) + 1), repeat=many):
                    self.assertIs(order in plain[story], shows_plain(program, story, order), order)

    def test_stories_that_are_not_plain(self):
        for order in itertools.product(range(2), repeat=4):
            self.assertIs(False, shows_plain(TWO, STORY, order))

    def test_lengths(self):
        order = (1, 1, 0, 0)
        self.assertIs(True, shows_plain(TWO, OTHER, order))
        for value in ((), order[:-1], order[1:], order + (0,), order + (1,), order * 2, (1, 0), (order,), (1, 1, 0)):
            self.assertIs(False, shows_plain(TWO, OTHER, value), value)

    def test_threads_that_are_not_there(self):
        for wrong in (-1, -2, 2, 3, 10 ** 20, True, False, None, "1", "", (1,), [1], {}):
            for at in range(4):
                order = [1, 1, 0, 0]
                order[at] = wrong
                self.assertIs(False, shows_plain(TWO, OTHER, tuple(order)), order)
        self.assertIs(False, shows_plain(TWO, OTHER, (-1, -1, 0, 0)))
        self.assertIs(False, shows_plain(TWO, OTHER, (-1, -1, -2, -2)))
        self.assertIs(False, shows_plain(TWO, OTHER, (True, True, False, False)))

    def test_lists_and_near_values(self):
        self.assertIs(False, shows_plain(TWO, OTHER, [1, 1, 0, 0]))
        for value in varied((1, 1, 0, 0)):
            self.assertIs(repr(value) == "(1, 1, 0, 0)", shows_plain(TWO, OTHER, value), value)

    def test_any_value(self):
        for value in values():
            before = repr(value)
            self.assertIs(False, shows_plain(TWO, OTHER, value), value)
            self.assertIs(False, shows_plain(TWO, OTHER, (value, 1, 0, 0)) and before != "1")
            self.assertIs(before == "()", shows_plain(EMPTY, ((), ()), value), value)
            self.assertIs(before == "(0,)", shows_plain(((("fence",),),), ((), ()), value), value)
            self.assertEqual(before, repr(value))


class ShowsStoryRing(unittest.TestCase):
    RING = ((0, 0), (0, 1), (1, 0), (1, 1))

    def test_all_tuples_of_places(self):
        places = [(thread, at) for thread in range(3) for at in range(2)]
        for program in (TWO, MESSAGE, SWAPS):
            for story in forms(program):
                pairs = relations(program, story)
                for many in range(5):
                    for value in itertools.permutations(places, many):
                        self.assertIs(is_ring(pairs, value), shows_story_ring(program, story, value), value)

    def test_turned_and_cut(self):
        ring = self.RING
        for at in range(4):
            turned = ring[at:] + ring[:at]
            self.assertIs(True, shows_story_ring(TWO, STORY, turned))
            self.assertIs(False, shows_story_ring(TWO, STORY, turned[::-1]))
            self.assertIs(False, shows_story_ring(TWO, STORY, turned[1:]))
            self.assertIs(False, shows_story_ring(TWO, STORY, turned + turned[:1]))
            self.assertIs(False, shows_story_ring(TWO, STORY, turned[:1] * 2 + turned[1:]))
            self.assertIs(False, shows_story_ring(TWO, STORY, turned[1:2] + turned[:1] + turned[2:]))
            self.assertIs(False, shows_story_ring(TWO, STORY, turned[:1]))
        self.assertIs(False, shows_story_ring(TWO, STORY, ring * 2))
        self.assertIs(False, shows_story_ring(TWO, STORY, ()))

    def test_two_places(self):
        program = ((("swap", "x"),), (("swap", "x"),))
        story = ((((0, 0), None), ((1, 0), None)), (("x", ((0, 0), (1, 0))),))
        self.assertIs(True, shows_story_ring(program, story, ((0, 0), (1, 0))))
        self.assertIs(True, shows_story_ring(program, story, ((1, 0), (0, 0))))
        self.assertIs(False, shows_story_ring(program, story, ((1, 0),)))
        self.assertIs(False, shows_story_ring(program, story, ((1, 0), (1, 0))))

    def test_places_need_not_be_neighbours(self):
        program = ((("store", "x"), ("load", "z"), ("fence",), ("load", "y")), (("store", "y"), ("load", "x")))
        story = ((((0, 1), None), ((0, 3), None), ((1, 1), None)), (("x", ((0, 0),)), ("y", ((1, 0),)), ("z", ())))
        self.assertIs(True, shows_story_ring(program, story, ((0, 0), (0, 3), (1, 0), (1, 1))))
        self.assertIs(True, shows_story_ring(program, story, ((0, 0), (0, 1), (0, 3), (1, 0), (1, 1))))
        # A fence is no access.
        self.assertIs(False, shows_story_ring(program, story, ((0, 0), (0, 2), (0, 3), (1, 0), (1, 1))))

    def test_numbers_that_are_not_there(self):
        for wrong in ((2, 0), (0, 2), (-1, 0), (0, -1), (-2, 0), (1, False), (True, 0), (True, False), (10 ** 30, 0)):
            for at in range(4):
                value = self.RING[:at] + (wrong,) + self.RING[at + 1:]
                self.assertIs(False, shows_story_ring(TWO, STORY, value), value)
                self.assertIs(False, shows_story_ring(TWO, STORY, self.RING[:at] + (wrong,) + self.RING[at:]))
        value = ((0, 0), (0, True), (1, 0), (1, 1))
        self.assertIs(False, shows_story_ring(TWO, STORY, value))

    def test_lists_and_near_values(self):
        for value in listed(self.RING):
            self.assertIs(False, shows_story_ring(TWO, STORY, value), value)
        for value in varied(self.RING):
            self.assertIs(repr(value) == repr(self.RING), shows_story_ring(TWO, STORY, value), value)

    def test_any_value(self):
        for value in values():
            before = repr(value)
            self.assertIs(False, shows_story_ring(TWO, STORY, value), value)
            self.assertIs(before == "(0, 0)", shows_story_ring(TWO, STORY, (value,) + self.RING[1:]), value)
            self.assertIs(False, shows_story_ring(TWO, STORY, self.RING + (value,)), value)
            self.assertIs(False, shows_story_ring(TWO, OTHER, value), value)
            self.assertIs(False, shows_story_ring(EMPTY, ((), ()), value), value)
            self.assertEqual(before, repr(value))
