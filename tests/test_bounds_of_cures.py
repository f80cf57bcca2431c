"""Remedies, prices and needless fences of programs at the bounds of point [4]."""

import random
import unittest

from ringfences.errors import TooLong, Unfaithful
from ringfences.needless import needless_fences, thinned
from ringfences.pairs import is_faithful, live_pairs
from ringfences.prices import cheapest, is_price_list, shows_weights, weights
from ringfences.programs import is_program
from ringfences.remedies import applied, apart, fewest, is_remedies, shows_apart, shows_cure
from tests.helper import GREATEST, NAMES, all_remedies, cut_pairs
from tests.test_bounds import ALL, BUFFERS, DENSE, FENCE, FENCES, LOADS, PROGRAMS, SWAPS, chain

# Stores to all variables in turn, a fence behind each one, and loads of all of them.
WALLED = tuple(
    tuple(row for at in range(8) for row in (("store", NAMES[(at + thread) % 6]), FENCE)) for thread in range(3)
) + tuple(tuple(("load", NAMES[(at + thread) % 6]) for at in range(16)) for thread in range(3))


class Cures(unittest.TestCase):
    def check(self, program, buffers, word):
        live = live_pairs(program, buffers)
        found, pairs = fewest(program, buffers, word), apart(program, buffers, word)
        self.assertIs(True, is_remedies(program, found))
        self.assertEqual(list(live), cut_pairs(found, live))
        self.assertIs(True, shows_cure(program, buffers, found))
        self.assertEqual(len(found), len(pairs))
        self.assertIs(True, shows_apart(program, buffers, word, pairs))
        for remedy in all_remedies(program, (word,)):
            self.assertLess(len(cut_pairs([remedy], pairs)), 2)
        for at in range(0, len(found), 7):
            self.assertIs(False, shows_cure(program, buffers, found[:at] + found[at + 1:]))
        return found

    def test_fewest_and_apart(self):
        for program in PROGRAMS:
            for buffers in BUFFERS:
                fences = self.check(program, buffers, "fence")
                swaps = self.check(program, buffers, "swap")
                self.assertIs(True, is_faithful(applied(program, swaps), buffers))
                self.assertEqual(len(fences) == 0, is_faithful(program, buffers))

    def test_numbers(self):
        for room in (1, 16):
            # In each thread each two neighbours are a live pair: a fence between them, or every second swap.
            self.assertEqual(6 * 15, len(self.check(GREATEST, ("lanes", room), "fence")))
            self.assertEqual(6 * 8, len(self.check(GREATEST, ("lanes", room), "swap")))
            self.assertEqual((), fewest(GREATEST, ("line", room), "fence"))
        program = chain((FENCE,) * 13)
        for buffers in BUFFERS:
            self.assertEqual((("swap", 0, 13),), self.check(program, buffers, "swap"))
            self.assertEqual([("fence", 0)], [remedy[:2] for remedy in self.check(program, buffers, "fence")])
            self.assertRaises(TooLong, applied, program, fewest(program, buffers, "fence"))
            self.assertIs(True, is_faithful(applied(program, (("swap", 0, 13),)), buffers))

    def test_all_remedies_at_once(self):
        for program in (GREATEST, DENSE, ALL):
            whole = tuple(all_remedies(program))
            self.assertIs(True, is_remedies(program, whole))
            for buffers in BUFFERS:
                self.assertIs(True, shows_cure(program, buffers, whole))
            with self.assertRaises(TooLong) as held:
                applied(program, whole)
            self.assertEqual(16, held.exception.limit)


class Prices(unittest.TestCase):
    def test_drawn_prices(self):
        for seed, program in enumerate((GREATEST, DENSE, ALL, chain((FENCE,) * 13))):
            source = random.Random(seed)
            whole = all_remedies(program)
            for buffers in BUFFERS:
                live = live_pairs(program, buffers)
                for price_list in (
                    tuple((remedy, source.randint(0, 1000)) for remedy in whole),
                    tuple((remedy, source.randint(0, 3)) for remedy in whole if source.random() < 0.97),
                ):
                    self.assertIs(True, is_price_list(program, price_list))
                    found, shown = cheapest(program, buffers, price_list), weights(program, buffers, price_list)
                    if found is None:
                        self.assertIsNone(shown)
                        self.assertNotEqual(list(live), cut_pairs([row[0] for row in price_list], live))
                        continue
                    self.assertEqual(list(live), cut_pairs(found[1], live))
                    self.assertEqual(found[0], sum(dict(price_list)[remedy] for remedy in found[1]))
                    self.assertEqual(found[0], sum(weight for _, weight in shown))
                    self.assertIs(True, shows_weights(program, buffers, price_list, found[0], shown))
                    for remedy, price in price_list:
                        cut = cut_pairs([remedy], [pair for pair, _ in shown])
                        self.assertLessEqual(sum(dict(shown)[pair] for pair in cut), price)

    def test_even_prices(self):
        prices = tuple((remedy, 1000) for remedy in all_remedies(GREATEST, ("fence",)))
        self.assertEqual(90 * 1000, cheapest(GREATEST, ("lanes", 1), prices)[0])
        prices = prices + tuple((remedy, 999) for remedy in all_remedies(GREATEST, ("swap",)))
        self.assertEqual(48 * 999, cheapest(GREATEST, ("lanes", 16), prices)[0])
        self.assertEqual(48 * 999, sum(weight for _, weight in weights(GREATEST, ("lanes", 16), prices)))


class Needless(unittest.TestCase):
    def test_fences_of_long_threads(self):
        self.assertIs(True, is_program(WALLED))
        fences = [(thread, at) for thread in range(3) for at in range(1, 16, 2)]
        ends = ((0, 15), (1, 15), (2, 15))
        left = tuple(rows[:15] for rows in WALLED[:3]) + WALLED[3:]
        for room in (1, 16):
            # With lanes each two stores are kept apart by the fence between them; with lines stores stay in order.
            self.assertEqual(ends, needless_fences(WALLED, ("lanes", room)))
            self.assertEqual(left, thinned(WALLED, ("lanes", room)))
            self.assertEqual(tuple(fences), needless_fences(WALLED, ("line", room)))
            bare = tuple(tuple(row for row in rows if row != FENCE) for rows in WALLED)
            self.assertEqual(bare, thinned(WALLED, ("line", room)))

    def test_fences_and_nothing_else(self):
        for buffers in BUFFERS:
            self.assertEqual(96, len(needless_fences(FENCES, buffers)))
            self.assertEqual(((),) * 6, thinned(FENCES, buffers))
            for program in (SWAPS, LOADS):
                self.assertEqual((), needless_fences(program, buffers))
                self.assertEqual(program, thinned(program, buffers))

    def test_not_faithful(self):
        for program in (DENSE, ALL, chain((FENCE,) * 13)):
            for buffers in BUFFERS:
                self.assertRaises(Unfaithful, needless_fences, program, buffers)
                self.assertRaises(Unfaithful, thinned, program, buffers)
