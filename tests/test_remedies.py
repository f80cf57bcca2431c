"""Remedies: what they are, what they cut, the fewest ones, and pairs apart."""

import itertools
import unittest

from ringfences.errors import TooLong
from ringfences.pairs import is_faithful, live_pairs, loose_pairs
from ringfences.programs import is_program
from ringfences.remedies import applied, apart, cuts, fewest, is_remedies, shows_apart, shows_cure
from tests.helper import BUFFERS, EMPTY, FENCED, GREATEST, LANES, LINE, MESSAGE, MIXED, OWN, SMALL, THREE, TWO
from tests.helper import all_remedies, cut_pairs, dense_programs, is_all_tuples, listed, subsets, values, varied

WORDS = ("fence", "swap")
# A load stands between the store and the late load, so that several places of a fence serve.
WIDE = (
    (("store", "x"), ("load", "z"), ("store", "w"), ("load", "y")),
    (("store", "y"), ("load", "w"), ("load", "z"), ("load", "x")),
)
# Pairs that overlap in a row, so that their remedies must be chosen well.
ROW = (
    (("store", "a"), ("load", "b"), ("store", "c"), ("load", "d"), ("store", "e"), ("load", "f")),
    (("store", "b"), ("load", "a"), ("store", "d"), ("load", "c"), ("store", "f"), ("load", "e")),
)
HERE = SMALL + (WIDE, ROW)


def is_really(program, value):
    """Whether a value is remedies, by the list of all remedies and the kinds of its parts."""
    if type(value) is not tuple or not all(type(row) is tuple for row in value):
        return False
    if not all([type(part) for part in row] == [str, int, int] for row in value):
        return False
    return list(value) == sorted(set(value)) and set(value) <= set(all_remedies(program))


class IsRemedies(unittest.TestCase):
    def test_every_place(self):
        for program in HERE:
            for thread in range(-1, len(program) + 2):
                rows = program[thread] if 0 <= thread < len(program) else None
                for at in range(-2, 9):
                    is_fence = rows is not None and 0 <= at <= len(rows)
                    is_swap = rows is not None and 0 <= at < len(rows) and rows[at][0] == "store"
                    self.assertIs(is_fence, is_remedies(program, (("fence", thread, at),)), (program, thread, at))
                    self.assertIs(is_swap, is_remedies(program, (("swap", thread, at),)), (program, thread, at))

    def test_fences_at_the_end_and_behind_it(self):
        self.assertIs(True, is_remedies(TWO, (("fence", 0, 2),)))
        self.assertIs(False, is_remedies(TWO, (("fence", 0, 3),)))
        self.assertIs(True, is_remedies(EMPTY, (("fence", 0, 0), ("fence", 1, 0))))
        self.assertIs(False, is_remedies(EMPTY, (("fence", 0, 1),)))
        self.assertIs(True, is_remedies(GREATEST, (("fence", 5, 16), ("swap", 5, 15))))
        self.assertIs(False, is_remedies(GREATEST, (("fence", 5, 17),)))
        self.assertIs(False, is_remedies(GREATEST, (("swap", 5, 16),)))

    def test_swaps_of_what_is_no_store(self):
        for at, row in enumerate(MIXED[0]):
            self.assertIs(row[0] == "store", is_remedies(MIXED, (("swap", 0, at),)))
        self.assertIs(False, is_remedies(MIXED, (("swap", 1, 0),)))
        self.assertIs(True, is_remedies(MIXED, (("swap", 1, 1),)))

    def test_other_words(self):
        for word in ("store", "load", "do", "", "Fence", "fences", None, ("fence",), 0):
            self.assertIs(False, is_remedies(TWO, ((word, 0, 0),)))

    def test_all_sets_and_orders(self):
        for program in (TWO, MESSAGE, THREE):
            whole = all_remedies(program)
            self.assertIs(True, is_remedies(program, tuple(whole)))
            for value in subsets(whole[:3] + whole[-3:]):
                self.assertIs(True, is_remedies(program, value))
                if value:
                    self.assertIs(False, is_remedies(program, value + value[-1:]))
                    self.assertIs(False, is_remedies(program, value[:1] + value))
                for other in itertools.permutations(value):
                    self.assertIs(other == value, is_remedies(program, other))

    def test_no_remedies(self):
        for program in HERE:
            self.assertIs(True, is_remedies(program, ()))
            self.assertIs(False, is_remedies(program, []))

    def test_more_than_a_thread_can_take(self):
        self.assertIs(True, is_remedies(GREATEST, tuple(all_remedies(GREATEST))))

    def test_lists_and_near_values(self):
        many = {True: 0, False: 0}
        for value in ((("fence", 0, 1), ("fence", 1, 1), ("swap", 1, 0)), (("swap", 0, 0),)):
            for other in listed(value):
                self.assertIs(False, is_remedies(TWO, other), other)
            for other in varied(value):
                wanted = is_really(TWO, other)
                many[wanted] += 1
                self.assertIs(wanted, is_remedies(TWO, other), other)
        self.assertGreater(min(many.values()), 10)

    def test_booleans(self):
        self.assertIs(True, is_remedies(TWO, (("fence", 0, 1),)))
        for value in ((("fence", False, 1),), (("fence", 0, True),), (("fence", 1, False),), (("swap", False, 0),)):
            self.assertIs(False, is_remedies(TWO, value))

    def test_any_value(self):
        for value in values():
            before = repr(value)
            self.assertIs(value == (), is_remedies(TWO, value), value)
            for other in ((value,), (("fence", 0, 1), value), (value, ("fence", 0, 1)), ("fence", 0, value),
                          (("fence", 0, 1, value),), (("fence", value),)):
                self.assertIs(False, is_remedies(TWO, other), other)
            self.assertIs(value == "fence", is_remedies(TWO, ((value, 0, 1),)), value)
            self.assertIs(before in ("0", "1", "2"), is_remedies(TWO, (("fence", 0, value),)), value)
            self.assertIs(before in ("0", "1"), is_remedies(TWO, (("fence", value, 0),)), value)
            self.assertEqual(before, repr(value))


class Cuts(unittest.TestCase):
    def test_around_a_pair(self):
        wanted = {0: (False, False), 1: (False, False), 2: (False, True), 3: (True, True), 4: (True, True),
                  5: (True, True), 6: (False, False), 7: (False, False)}
        for at, (fence, swap) in wanted.items():
            self.assertIs(fence, cuts(("fence", 0, at), (0, 2, 5)), at)
            self.assertIs(swap, cuts(("swap", 0, at), (0, 2, 5)), at)

    def test_neighbours(self):
        self.assertEqual([False, True, False], [cuts(("fence", 3, at), (3, 0, 1)) for at in range(3)])
        self.assertEqual([True, True, False], [cuts(("swap", 3, at), (3, 0, 1)) for at in range(3)])

    def test_other_threads(self):
        for word in WORDS:
            for thread in range(6):
                for other in range(6):
                    self.assertIs(thread == other, cuts((word, thread, 3), (other, 2, 4)))

    def test_all_small_numbers(self):
        for early in range(6):
            for late in range(early + 1, 7):
                for at in range(9):
                    self.assertIs(early < at <= late, cuts(("fence", 1, at), (1, early, late)))
                    self.assertIs(early <= at <= late, cuts(("swap", 1, at), (1, early, late)))


class Applied(unittest.TestCase):
    def test_one(self):
        store, load, fence = ("store", "x"), ("load", "y"), ("fence",)
        rows = [((fence, store, load)), ((store, fence, load)), ((store, load, fence))]
        for at in range(3):
            self.assertEqual((rows[at], TWO[1]), applied(TWO, (("fence", 0, at),)))
        self.assertEqual((TWO[0], (("swap", "y"), ("load", "x"))), applied(TWO, (("swap", 1, 0),)))

    def test_none(self):
        for program in HERE + (GREATEST,):
            self.assertEqual(program, applied(program, ()))

    def test_several_in_one_thread(self):
        fence = ("fence",)
        self.assertEqual(
            ((fence, ("swap", "x"), fence, ("swap", "y"), fence), MESSAGE[1]),
            applied(MESSAGE, (("fence", 0, 0), ("fence", 0, 1), ("fence", 0, 2), ("swap", 0, 0), ("swap", 0, 1))),
        )
        self.assertEqual(
            ((("store", "x"), fence, ("swap", "y")), (fence, ("load", "y"), ("load", "x"), fence)),
            applied(MESSAGE, (("fence", 0, 1), ("fence", 1, 0), ("fence", 1, 2), ("swap", 0, 1))),
        )
        self.assertEqual(((fence,), (fence,)), applied(EMPTY, (("fence", 0, 0), ("fence", 1, 0))))

    def test_beside_fences_that_are_there(self):
        program = ((("store", "x"), ("fence",), ("load", "y")),)
        self.assertEqual((program[0][:2] + program[0][1:],), applied(program, (("fence", 0, 1),)))
        self.assertEqual((program[0][:2] + program[0][1:],), applied(program, (("fence", 0, 2),)))

    def test_all_sets(self):
        for program in (TWO, MESSAGE, OWN):
            for remedies in subsets(all_remedies(program)[:4] + all_remedies(program, ("swap",))):
                if is_really(program, remedies):
                    found = applied(program, remedies)
                    self.assertIs(True, is_program(found))
                    # Fences stand ahead of what had the number, so that each thread is put together from its end.
                    threads = [list(rows) for rows in program]
                    for word, thread, at in remedies[::-1]:
                        if word == "swap":
                            threads[thread][at] = ("swap", threads[thread][at][1])
                    for word, thread, at in remedies[::-1]:
                        if word == "fence":
                            threads[thread].insert(at, ("fence",))
                    self.assertEqual(tuple(tuple(rows) for rows in threads), found)

    def test_sixteen_and_seventeen(self):
        for many in range(10, 17):
            rows = (("store", "x"),) * many
            for program in ((rows,), ((), rows), (rows, (("load", "x"),) * 16)):
                thread = program.index(rows)
                for fences in range(many + 2):
                    remedies = tuple(("fence", thread, at) for at in range(fences))
                    if many + fences <= 16:
                        self.assertEqual(many + fences, len(applied(program, remedies)[thread]))
                        continue
                    for _ in range(2):
                        with self.assertRaises(TooLong) as held:
                            applied(program, remedies)
                        self.assertEqual({"limit": 16}, vars(held.exception))

    def test_swaps_need_no_room(self):
        swaps = tuple(all_remedies(GREATEST, ("swap",)))
        self.assertEqual(96, len(swaps))
        self.assertEqual(tuple(tuple(("swap", row[1]) for row in rows) for rows in GREATEST), applied(GREATEST, swaps))
        with self.assertRaises(TooLong):
            applied(GREATEST, (("fence", 5, 16),) + swaps)

    def test_the_program_stays(self):
        remedies = (("fence", 0, 1), ("swap", 0, 0))
        program, before = TWO, repr(TWO)
        applied(program, remedies)
        self.assertEqual(before, repr(program))
        self.assertEqual((("fence", 0, 1), ("swap", 0, 0)), remedies)


class Faithful(unittest.TestCase):
    def test_programs_with_remedies(self):
        # Point [3] (d): the live pairs are the ones that no remedy cuts, at their new places.
        for program in (TWO, MESSAGE, THREE, OWN, WIDE) + tuple(dense_programs(12, 20, 2, 4)):
            whole = all_remedies(program)
            for buffers in (("line", 1), LINE, ("lanes", 1), LANES):
                live = live_pairs(program, buffers)
                for remedies in itertools.chain(subsets(whole[:3]), itertools.combinations(whole, 2)):
                    found = applied(program, tuple(sorted(remedies)))
                    moved = [
                        (thread, early + ahead(remedies, thread, early), late + ahead(remedies, thread, late))
                        for thread, early, late in live
                        if not cut_pairs(remedies, [(thread, early, late)])
                    ]
                    self.assertEqual(tuple(sorted(moved)), live_pairs(found, buffers), (program, remedies))
                    self.assertIs(not moved, is_faithful(found, buffers))


def ahead(remedies, thread, at):
    """How many fences are put in ahead of an instruction."""
    return len([row for row in remedies if row[0] == "fence" and row[1] == thread and row[2] <= at])


class ShowsCure(unittest.TestCase):
    def test_what_fewest_returns(self):
        for program in HERE + tuple(dense_programs(20, 21)):
            for buffers in BUFFERS:
                for word in WORDS:
                    found = fewest(program, buffers, word)
                    self.assertIs(True, shows_cure(program, buffers, found))
                    for at in range(len(found)):
                        self.assertIs(False, shows_cure(program, buffers, found[:at] + found[at + 1:]))
                        self.assertIs(False, shows_cure(program, buffers, found + found[at:at + 1]))
                    if len(found) > 1:
                        self.assertIs(False, shows_cure(program, buffers, found[::-1]))
                    self.assertIs(False, shows_cure(program, buffers, list(found)))

    def test_one_more(self):
        for program in HERE:
            for word in WORDS:
                found = fewest(program, LANES, word)
                for remedy in all_remedies(program):
                    more = tuple(sorted(set(found) | {remedy}))
                    self.assertIs(True, shows_cure(program, LANES, more))

    def test_the_other_word(self):
        self.assertIs(True, shows_cure(TWO, LINE, (("fence", 0, 1), ("swap", 1, 0))))
        self.assertIs(False, shows_cure(TWO, LINE, (("swap", 0, 1), ("swap", 1, 0))))
        self.assertIs(False, shows_cure(TWO, LINE, (("fence", 0, 0), ("fence", 1, 1))))
        self.assertIs(True, shows_cure(MESSAGE, LANES, (("swap", 0, 0),)))

    def test_all_sets(self):
        for program in (TWO, MESSAGE, THREE):
            for buffers in (("line", 1), LINE, ("lanes", 1), LANES):
                live = live_pairs(program, buffers)
                for remedies in subsets(all_remedies(program)):
                    wanted = cut_pairs(remedies, live) == list(live)
                    self.assertIs(wanted, shows_cure(program, buffers, remedies), remedies)
                    if len(program[0]) + len(remedies) < 17:
                        self.assertIs(wanted, is_faithful(applied(program, remedies), buffers))

    def test_faithful_ones(self):
        for buffers in BUFFERS:
            self.assertIs(True, shows_cure(EMPTY, buffers, ()))
            self.assertIs(False, shows_cure(TWO, buffers, ()))
        self.assertIs(True, shows_cure(MESSAGE, LINE, ()))
        self.assertIs(True, shows_cure(MESSAGE, LINE, (("fence", 1, 2),)))
        self.assertIs(False, shows_cure(MESSAGE, LINE, (("fence", 1, 3),)))
        self.assertIs(False, shows_cure(MESSAGE, LANES, ()))

    def test_more_than_a_thread_can_take(self):
        self.assertIs(True, shows_cure(GREATEST, LANES, tuple(all_remedies(GREATEST))))

    def test_any_value(self):
        cure = (("fence", 0, 1), ("swap", 1, 0))
        for other in listed(cure):
            self.assertIs(False, shows_cure(TWO, LINE, other), other)
        for other in varied(cure):
            wanted = is_really(TWO, other) and len(cut_pairs(other, live_pairs(TWO, LINE))) == 2
            self.assertIs(wanted, shows_cure(TWO, LINE, other), other)
        for value in values():
            self.assertIs(False, shows_cure(TWO, LINE, value), value)
            self.assertIs(False, shows_cure(TWO, LINE, cure + (value,)), value)
            self.assertIs(value == (), shows_cure(MESSAGE, LINE, value), value)


def is_apart(program, live, word, value):
    """Whether pairs are live ones of which no remedy of a word cuts two."""
    if list(value) != sorted(set(value)) or not set(value) <= set(live):
        return False
    return all(len(cut_pairs([remedy], value)) < 2 for remedy in all_remedies(program, (word,)))


class Fewest(unittest.TestCase):
    def check(self, program, buffers, word):
        live = live_pairs(program, buffers)
        found, pairs = fewest(program, buffers, word), apart(program, buffers, word)
        self.assertTrue(is_all_tuples(found) and is_all_tuples(pairs))
        self.assertIs(True, is_remedies(program, found))
        self.assertEqual({word} if live else set(), {remedy[0] for remedy in found})
        self.assertEqual(list(live), cut_pairs(found, live))
        # As many pairs of which no remedy cuts two show that fewer remedies do not do.
        self.assertEqual(len(found), len(pairs))
        self.assertTrue(is_apart(program, live, word, pairs), (program, buffers, word, pairs))
        self.assertIs(True, shows_apart(program, buffers, word, pairs))
        if all(len(rows) + ahead(found, thread, 16) <= 16 for thread, rows in enumerate(program)):
            self.assertIs(True, is_faithful(applied(program, found), buffers))
            for at in range(len(found)):
                self.assertIs(False, is_faithful(applied(program, found[:at] + found[at + 1:]), buffers))
        return found

    def test_small_ones(self):
        for program in HERE:
            for buffers in BUFFERS:
                for word in WORDS:
                    self.check(program, buffers, word)

    def test_numbers(self):
        for buffers in BUFFERS:
            for word in WORDS:
                self.assertEqual(2, len(self.check(TWO, buffers, word)))
                # In WIDE others see, with lanes, that the store to w comes ahead of the one to x, which asks for a fence.
                many = 3 if (buffers[0], word) == ("lanes", "fence") else 2
                self.assertEqual(many, len(self.check(WIDE, buffers, word)))
                self.assertEqual(0 if buffers[0] == "line" else 1, len(self.check(MESSAGE, buffers, word)))
        # A swap of the store in the middle cuts the pairs on both sides of it; a fence does not.
        program = (
            (("store", "x"), ("store", "y"), ("store", "z")),
            (("load", "y"), ("load", "x")),
            (("load", "z"), ("load", "y")),
        )
        self.assertEqual((("swap", 0, 1),), self.check(program, LANES, "swap"))
        self.assertEqual((("fence", 0, 1), ("fence", 0, 2)), self.check(program, LANES, "fence"))
        self.assertEqual(6, len(self.check(ROW, ("line", 1), "fence")))

    def test_no_fewer_ones(self):
        many = 0
        for program in HERE[:-1] + tuple(dense_programs(40, 22)):
            for buffers in (("line", 1), LINE, ("lanes", 1), LANES):
                live = live_pairs(program, buffers)
                for word in WORDS:
                    found = self.check(program, buffers, word)
                    for size in range(len(found)):
                        for remedies in itertools.combinations(all_remedies(program, (word,)), size):
                            self.assertNotEqual(list(live), cut_pairs(remedies, live))
                            many += 1
        self.assertGreater(many, 5000)

    def test_faithful_programs(self):
        fenced = ((("store", "x"), ("fence",), ("load", "y")), (("store", "y"), ("fence",), ("load", "x")))
        for word in WORDS:
            for buffers in BUFFERS:
                for program in (EMPTY, (TWO[0],), fenced, ((("load", "x"),) * 16,) * 6):
                    self.assertEqual((), fewest(program, buffers, word))
                    self.assertEqual((), apart(program, buffers, word))
            self.assertEqual((), fewest(MESSAGE, LINE, word))
            self.assertEqual((), apart(MESSAGE, LINE, word))

    def test_less_room_needs_no_more(self):
        for program in HERE + tuple(dense_programs(20, 23, 5, 9)):
            for word in WORDS:
                many = [len(fewest(program, ("line", room), word)) for room in (1, 2, 3, 16)]
                others = [len(fewest(program, ("lanes", room), word)) for room in (1, 2, 3, 16)]
                self.assertEqual(sorted(many), many)
                self.assertEqual(sorted(others), others)
                self.assertTrue(all(one <= other for one, other in zip(many, others)))


class ShowsApart(unittest.TestCase):
    def test_all_sets(self):
        many = {True: 0, False: 0}
        for program in (TWO, MESSAGE, THREE, OWN, WIDE, FENCED) + tuple(dense_programs(20, 24, 2, 4)):
            for buffers in (("line", 1), LINE, ("lanes", 1), LANES):
                live = live_pairs(program, buffers)
                for value in subsets(live[:8]):
                    for word in WORDS:
                        wanted = is_apart(program, live, word, value)
                        many[wanted] += 1
                        self.assertIs(wanted, shows_apart(program, buffers, word, value), (program, value))
        self.assertGreater(min(many.values()), 100)

    def test_what_apart_returns(self):
        for program in HERE:
            for buffers in BUFFERS:
                for word in WORDS:
                    pairs = apart(program, buffers, word)
                    for at in range(len(pairs)):
                        fewer = pairs[:at] + pairs[at + 1:]
                        self.assertIs(True, shows_apart(program, buffers, word, fewer))
                        self.assertIs(False, shows_apart(program, buffers, word, pairs + pairs[at:at + 1]))
                        self.assertIs(False, shows_apart(program, buffers, word, pairs[at:at + 1] + pairs))
                    self.assertIs(len(pairs) < 2, shows_apart(program, buffers, word, pairs[::-1]))
                    # No more pairs can be apart, as the remedies cut them all.
                    for pair in set(live_pairs(program, buffers)) - set(pairs):
                        more = tuple(sorted(pairs + (pair,)))
                        self.assertIs(False, shows_apart(program, buffers, word, more))

    def test_the_other_word(self):
        # A fence between the store and the load cuts no pair of its neighbours; a swap does.
        program = (
            (("store", "x"), ("store", "y"), ("store", "z")),
            (("load", "y"), ("load", "x")),
            (("load", "z"), ("load", "y")),
        )
        value = ((0, 0, 1), (0, 1, 2))
        self.assertEqual(value, apart(program, LANES, "fence"))
        self.assertIs(True, shows_apart(program, LANES, "fence", value))
        self.assertIs(False, shows_apart(program, LANES, "swap", value))

    def test_pairs_that_are_not_live(self):
        program = (TWO[0] + (("store", "w"), ("load", "v")), TWO[1])
        self.assertIn((0, 2, 3), loose_pairs(program, LINE))
        self.assertNotIn((0, 2, 3), live_pairs(program, LINE))
        for word in WORDS:
            for value in (((0, 2, 3),), ((0, 0, 1), (0, 2, 3)), ((0, 0, 3),), ((0, 1, 0),), ((2, 0, 1),), ((0, 0, 9),),
                          ((-1, 0, 1),), ((0, 1, 2),)):
                self.assertIs(False, shows_apart(program, LINE, word, value), value)
            self.assertIs(False, shows_apart(MESSAGE, LINE, word, ((0, 0, 1),)))
            self.assertIs(True, shows_apart(MESSAGE, LANES, word, ((0, 0, 1),)))

    def test_any_value(self):
        value = ((0, 0, 1), (1, 0, 1))
        for word in WORDS:
            for other in listed(value):
                self.assertIs(False, shows_apart(TWO, LINE, word, other), other)
            for other in varied(value):
                wanted = repr(other) in ("()", repr(value), repr(value[:1]), repr(value[1:]))
                self.assertIs(wanted, shows_apart(TWO, LINE, word, other), other)
            for other in (((False, 0, 1),), ((0, False, 1),), ((0, 0, True),), ((0, 0, 1), (True, 0, 1))):
                self.assertIs(False, shows_apart(TWO, LINE, word, other), other)
            for other in values():
                self.assertIs(other == (), shows_apart(TWO, LINE, word, other), other)
                self.assertIs(False, shows_apart(TWO, LINE, word, value + (other,)), other)
                self.assertIs(False, shows_apart(TWO, LINE, word, (other,)), other)
