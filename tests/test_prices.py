"""Price lists, the cheapest remedies, and the weights that show that nothing is cheaper."""

import itertools
import random
import unittest

from ringfences.pairs import is_faithful, live_pairs, loose_pairs
from ringfences.prices import cheapest, is_price_list, shows_weights, weights
from ringfences.remedies import applied, apart, fewest, is_remedies
from tests.helper import BUFFERS, EMPTY, LANES, LINE, MESSAGE, SMALL, THREE, TWO
from tests.helper import all_remedies, cut_pairs, dense_programs, is_all_tuples, listed, subsets, values, varied

PRICES = ((("fence", 0, 1), 3), (("fence", 1, 1), 3), (("swap", 0, 0), 2))
WEIGHTS = (((0, 0, 1), 2), ((1, 0, 1), 3))
SOME = (("line", 1), LINE, ("lanes", 1), LANES)


def some_lists(program, seed, many, greatest):
    """Price lists of a program with some of its remedies, the same ones at each call."""
    source, whole = random.Random(seed), all_remedies(program)
    lists = []
    for number in range(many):
        kept = len(whole) * (4, 3, 2, 1)[number % 4] // 4
        chosen = sorted(source.sample(whole, kept))
        lists.append(tuple((remedy, source.randint(0, greatest)) for remedy in chosen))
    return lists


def priced_at(program, price, words=("fence", "swap")):
    """A list of all remedies of a program at one price."""
    return tuple((remedy, price) for remedy in all_remedies(program, words))


def least_total(live, price_list):
    """The least sum of prices over all sets of the list's remedies that cut all live pairs, None if there are none."""
    # Remedies that cut the same pairs differ in nothing but their prices.
    least = {}
    for remedy, price in price_list:
        cut = frozenset(cut_pairs([remedy], live))
        if cut:
            least[cut] = min(price, least.get(cut, price))
    found = [
        sum(price for _, price in chosen) for chosen in subsets(sorted(least.items(), key=repr))
        if set().union(*[cut for cut, _ in chosen]) == set(live)
    ]
    return min(found, default=None)


def is_really(program, value):
    """Whether a value is a price list, by the list of all remedies and the kinds of its parts."""
    if type(value) is not tuple or not all(type(row) is tuple and len(row) == 2 for row in value):
        return False
    if not all(type(price) is int and 0 <= price <= 1000 for _, price in value):
        return False
    remedies = tuple(remedy for remedy, _ in value)
    return is_remedies(program, remedies) and len(set(remedies)) == len(value)


class IsPriceList(unittest.TestCase):
    def test_prices(self):
        for price in (0, 1, 500, 999, 1000):
            self.assertIs(True, is_price_list(TWO, ((("fence", 0, 1), price),)))
        for price in (-1, 1001, -1000, 10 ** 40, True, False, None, "1", (1,), [], {}):
            self.assertIs(False, is_price_list(TWO, ((("fence", 0, 1), price),)))
            self.assertIs(False, is_price_list(TWO, ((("fence", 0, 0), 1), (("fence", 0, 1), price))))

    def test_a_remedy_twice(self):
        for one, other in ((1, 2), (2, 1), (1, 1), (0, 1000)):
            value = ((("fence", 0, 1), one), (("fence", 0, 1), other))
            self.assertIs(False, is_price_list(TWO, value))
            self.assertIs(False, is_price_list(TWO, value + PRICES[1:]))

    def test_order(self):
        whole = priced_at(TWO, 7)
        self.assertIs(True, is_price_list(TWO, whole))
        for value in itertools.permutations(PRICES):
            self.assertIs(value == PRICES, is_price_list(TWO, value))
        for value in subsets(whole):
            self.assertIs(True, is_price_list(TWO, value))
        self.assertIs(True, is_price_list(TWO, ((("fence", 0, 0), 9), (("fence", 0, 1), 0), (("swap", 0, 0), 5))))

    def test_remedies_of_the_program(self):
        for program in SMALL:
            for word in ("fence", "swap", "store"):
                for thread in range(-1, 5):
                    for at in range(-1, 8):
                        remedy = (word, thread, at)
                        self.assertIs(is_remedies(program, (remedy,)), is_price_list(program, ((remedy, 1),)))

    def test_empty(self):
        for program in SMALL:
            self.assertIs(True, is_price_list(program, ()))
            self.assertIs(False, is_price_list(program, []))
            self.assertIs(True, is_price_list(program, priced_at(program, 1000)))

    def test_lists_and_near_values(self):
        for other in listed(PRICES):
            self.assertIs(False, is_price_list(TWO, other), other)
        many = {True: 0, False: 0}
        for other in varied(PRICES):
            wanted = is_really(TWO, other)
            many[wanted] += 1
            self.assertIs(wanted, is_price_list(TWO, other), other)
        self.assertGreater(min(many.values()), 5)

    def test_booleans(self):
        for value in (((("fence", 0, True), 1),), ((("fence", False, 1), 1),), ((("swap", 0, 0), True),),
                      ((("swap", 0, 0), False),)):
            self.assertIs(False, is_price_list(TWO, value))

    def test_any_value(self):
        for value in values():
            before = repr(value)
            self.assertIs(value == (), is_price_list(TWO, value), value)
            self.assertIs(type(value) is int and 0 <= value <= 1000, is_price_list(TWO, ((("fence", 0, 1), value),)))
            for other in ((value,), PRICES + (value,), (value,) + PRICES, ((value, 1),), ((("fence", 0, 1), 1, value),),
                          ((value, ("fence", 0, 1)),)):
                self.assertIs(False, is_price_list(TWO, other), other)
            self.assertEqual(before, repr(value))


class Cheapest(unittest.TestCase):
    def check(self, program, buffers, price_list):
        """Checks what is returned, and the weights; returns the total or None."""
        live = live_pairs(program, buffers)
        found, shown = cheapest(program, buffers, price_list), weights(program, buffers, price_list)
        if found is None:
            self.assertIsNone(shown)
            return None
        self.assertTrue(is_all_tuples(found) and is_all_tuples(shown))
        total, remedies = found
        self.assertIs(True, is_remedies(program, remedies))
        self.assertEqual(total, sum(dict(price_list)[remedy] for remedy in remedies))
        self.assertEqual(list(live), cut_pairs(remedies, live))
        # The weights show that remedies that cut all live pairs cost no less.
        self.assertTrue(is_weights(live, price_list, shown), (program, buffers, price_list, shown))
        self.assertEqual(total, sum(weight for _, weight in shown))
        self.assertIs(True, shows_weights(program, buffers, price_list, total, shown))
        return total

    def test_the_example(self):
        self.assertEqual(5, self.check(TWO, LINE, PRICES))
        self.assertIsNone(self.check(TWO, LINE, PRICES[:1]))
        self.assertIsNone(self.check(TWO, LINE, PRICES[::2]))
        self.assertEqual(6, self.check(TWO, LINE, PRICES[:2]))

    def test_all_sets(self):
        many = {True: 0, False: 0}
        for seed, program in enumerate(SMALL + tuple(dense_programs(40, 30))):
            for buffers in SOME:
                live = live_pairs(program, buffers)
                for price_list in some_lists(program, seed, 8, (3, 10, 1000)[seed % 3]):
                    total = self.check(program, buffers, price_list)
                    self.assertEqual(least_total(live, price_list), total, (program, buffers, price_list))
                    many[total is None] += 1
        self.assertGreater(min(many.values()), 100)

    def test_none_exactly_without_a_remedy_for_a_pair(self):
        for program in (TWO, MESSAGE, THREE) + tuple(dense_programs(10, 31, 2, 4)):
            for buffers in SOME:
                live = live_pairs(program, buffers)
                whole = priced_at(program, 3)
                for at in range(len(whole)):
                    for price_list in (whole[at:], whole[:at], whole[at:at + 3], whole[:at] + whole[at + 1:]):
                        is_cut = len(cut_pairs([row[0] for row in price_list], live)) == len(live)
                        self.assertIs(is_cut, self.check(program, buffers, price_list) is not None)

    def test_no_live_pair(self):
        for buffers in BUFFERS:
            for program in (EMPTY, TWO[:1], ((("load", "x"),) * 3,) * 2):
                for price in (0, 5):
                    for price_list in ((), priced_at(program, price)):
                        self.assertEqual((0, ()), cheapest(program, buffers, price_list))
                        self.assertEqual((), weights(program, buffers, price_list))
        self.assertEqual((0, ()), cheapest(MESSAGE, LINE, priced_at(MESSAGE, 0)))

    def test_no_remedies(self):
        for buffers in BUFFERS:
            self.assertIsNone(cheapest(TWO, buffers, ()))
            self.assertIsNone(weights(TWO, buffers, ()))

    def test_free_remedies(self):
        for program in SMALL + tuple(dense_programs(10, 32)):
            for buffers in SOME:
                free = priced_at(program, 0)
                total, remedies = cheapest(program, buffers, free)
                self.assertEqual(0, total)
                self.assertEqual((), weights(program, buffers, free))
                self.assertIs(True, shows_weights(program, buffers, free, 0, ()))
                self.check(program, buffers, free)
                # What is free is not taken without need.
                for at in range(len(remedies)):
                    fewer = remedies[:at] + remedies[at + 1:]
                    live = live_pairs(program, buffers)
                    self.assertNotEqual(list(live), cut_pairs(fewer, live))
        some = ((("fence", 0, 1), 0), (("fence", 1, 1), 4), (("swap", 0, 0), 0), (("swap", 1, 0), 5))
        self.assertEqual(4, self.check(TWO, LINE, some))

    def test_equal_prices(self):
        for program in SMALL + tuple(dense_programs(15, 33)):
            for buffers in SOME:
                for word in ("fence", "swap"):
                    for price in (1, 7, 1000):
                        total = self.check(program, buffers, priced_at(program, price, (word,)))
                        self.assertEqual(price * len(fewest(program, buffers, word)), total)
                        self.assertEqual(price * len(apart(program, buffers, word)), total)

    def test_a_mixture_is_cheaper(self):
        program = (
            (("store", "x"), ("store", "y"), ("store", "z")),
            (("load", "y"), ("load", "x")),
            (("load", "z"), ("load", "y")),
        )
        fences = ((("fence", 0, 1), 3), (("fence", 0, 2), 4))
        for price, total in ((6, 6), (7, 7), (8, 7), (0, 0)):
            self.assertEqual(total, self.check(program, LANES, fences + ((("swap", 0, 1), price),)))
        self.assertEqual(5, self.check(program, LANES, fences + ((("swap", 0, 0), 1), (("swap", 0, 1), 9))))
        self.assertEqual(5, self.check(program, LANES, ((("fence", 0, 1), 3), (("fence", 0, 2), 9), (("swap", 0, 2), 2))))

    def test_the_program_is_faithful_then(self):
        for seed, program in enumerate(dense_programs(30, 34)):
            for buffers in SOME:
                for price_list in some_lists(program, seed, 2, 9):
                    found = cheapest(program, buffers, price_list)
                    if found is not None:
                        self.assertIs(True, is_faithful(applied(program, found[1]), buffers))

    def test_lists_stay(self):
        before = repr(PRICES)
        self.check(TWO, LINE, PRICES)
        self.assertEqual(before, repr(PRICES))


def is_weights(live, price_list, value):
    """Whether pairs and positive numbers are weights, by the words of point [12]."""
    pairs = [pair for pair, _ in value]
    if pairs != sorted(set(pairs)) or not set(pairs) <= set(live) or not all(weight >= 1 for _, weight in value):
        return False
    given = dict(value)
    return all(sum(given[pair] for pair in cut_pairs([remedy], pairs)) <= price for remedy, price in price_list)


def is_formed(value):
    """Whether a value has the form of weights: tuples all over, and numbers that are no booleans."""
    if type(value) is not tuple or not all(type(row) is tuple and len(row) == 2 for row in value):
        return False
    if not all(type(pair) is tuple and type(weight) is int for pair, weight in value):
        return False
    return all([type(number) for number in pair] == [int, int, int] for pair, _ in value)


class ShowsWeights(unittest.TestCase):
    def test_one_more_or_less(self):
        self.assertIs(True, shows_weights(TWO, LINE, PRICES, 5, WEIGHTS))
        for one in range(-1, 5):
            for other in range(-1, 5):
                value = (((0, 0, 1), one), ((1, 0, 1), other))
                wanted = 1 <= one <= 2 and 1 <= other <= 3
                for total in range(-2, 9):
                    found = shows_weights(TWO, LINE, PRICES, total, value)
                    self.assertIs(wanted and total == one + other, found, (value, total))

    def test_without_a_pair(self):
        self.assertIs(True, shows_weights(TWO, LINE, PRICES, 3, WEIGHTS[1:]))
        self.assertIs(True, shows_weights(TWO, LINE, PRICES, 2, WEIGHTS[:1]))
        self.assertIs(True, shows_weights(TWO, LINE, PRICES, 0, ()))
        for total in (5, 1, 0, -1):
            self.assertIs(False, shows_weights(TWO, LINE, PRICES, total, WEIGHTS[1:]))
        self.assertIs(False, shows_weights(TWO, LINE, PRICES, 1, ()))

    def test_order_and_pairs_twice(self):
        self.assertIs(False, shows_weights(TWO, LINE, PRICES, 5, WEIGHTS[::-1]))
        for value in ((((0, 0, 1), 1), ((0, 0, 1), 1)), (((0, 0, 1), 1), ((0, 0, 1), 2))):
            for total in (1, 2, 3):
                self.assertIs(False, shows_weights(TWO, LINE, PRICES, total, value))

    def test_pairs_that_are_not_live(self):
        program = (TWO[0] + (("store", "w"), ("load", "v")), TWO[1])
        self.assertIn((0, 2, 3), loose_pairs(program, LINE))
        for pair in ((0, 2, 3), (0, 0, 3), (0, 1, 0), (2, 0, 1), (0, 0, 9), (-1, 0, 1)):
            self.assertIs(False, shows_weights(program, LINE, (), 1, ((pair, 1),)))
        self.assertIs(True, shows_weights(program, LINE, (), 1, (((0, 0, 1), 1),)))
        self.assertIs(False, shows_weights(MESSAGE, LINE, (), 1, (((0, 0, 1), 1),)))
        self.assertIs(True, shows_weights(MESSAGE, LANES, (), 1, (((0, 0, 1), 1),)))

    def test_pairs_that_nothing_on_the_list_cuts(self):
        # Nothing bounds their weights, and there is no cheapest.
        self.assertIsNone(cheapest(TWO, LINE, PRICES[:1]))
        self.assertIs(True, shows_weights(TWO, LINE, PRICES[:1], 10 ** 30, (((1, 0, 1), 10 ** 30),)))
        self.assertIs(False, shows_weights(TWO, LINE, PRICES[:1], 4, (((0, 0, 1), 4),)))

    def test_all_small_weights(self):
        many = {True: 0, False: 0}
        for seed, program in enumerate(dense_programs(60, 35, 3, 5)):
            for buffers in (LINE, LANES):
                live = live_pairs(program, buffers)
                for price_list in some_lists(program, seed, 4, 4):
                    for pairs in subsets(live[:3]):
                        for given in itertools.product((0, 1, 2, 3), repeat=len(pairs)):
                            value = tuple(zip(pairs, given))
                            wanted = is_weights(live, price_list, value)
                            many[wanted] += 1
                            self.assertIs(wanted, shows_weights(program, buffers, price_list, sum(given), value))
                            self.assertIs(False, shows_weights(program, buffers, price_list, sum(given) + 1, value))
        self.assertGreater(min(many.values()), 500)

    def test_what_weights_returns(self):
        for seed, program in enumerate(SMALL + tuple(dense_programs(20, 36))):
            for buffers in SOME:
                for price_list in some_lists(program, seed, 2, 20):
                    value = weights(program, buffers, price_list)
                    if value is None:
                        continue
                    total = cheapest(program, buffers, price_list)[0]
                    self.assertIs(True, shows_weights(program, buffers, price_list, total, value))
                    for at, (pair, weight) in enumerate(value):
                        # No weights can have a greater sum.
                        more = value[:at] + ((pair, weight + 1),) + value[at + 1:]
                        self.assertIs(False, shows_weights(program, buffers, price_list, total + 1, more))
                        self.assertIs(False, shows_weights(program, buffers, price_list, total, more))
                        fewer = value[:at] + value[at + 1:]
                        self.assertIs(True, shows_weights(program, buffers, price_list, total - weight, fewer))
                        self.assertIs(False, shows_weights(program, buffers, price_list, total, fewer))

    def test_totals_of_every_kind(self):
        for total in values():
            self.assertIs(repr(total) == "0", shows_weights(TWO, LINE, PRICES, total, ()), total)
            self.assertIs(repr(total) == "1", shows_weights(TWO, LINE, PRICES, total, (((0, 0, 1), 1),)), total)
            self.assertIs(False, shows_weights(TWO, LINE, PRICES, total, WEIGHTS), total)

    def test_any_value(self):
        for other in listed(WEIGHTS):
            self.assertIs(False, shows_weights(TWO, LINE, PRICES, 5, other), other)
        for other in varied(WEIGHTS):
            for total in (0, 2, 3, 4, 5):
                wanted = is_formed(other) and is_weights(((0, 0, 1), (1, 0, 1)), PRICES, other)
                wanted = wanted and sum(weight for _, weight in other) == total
                self.assertIs(wanted, shows_weights(TWO, LINE, PRICES, total, other), (total, other))
        for value in values():
            before = repr(value)
            self.assertIs(value == (), shows_weights(TWO, LINE, PRICES, 0, value), value)
            for other in (value, WEIGHTS + (value,), (value,) + WEIGHTS, ((value, 5),)):
                self.assertIs(False, shows_weights(TWO, LINE, PRICES, 5, other), other)
            self.assertIs(before == "2", shows_weights(TWO, LINE, PRICES, 2, (((0, 0, 1), value),)), value)
            self.assertEqual(before, repr(value))
        for value in ((((0, 0, 1), True),), (((0, 0, True), 1),), (((False, 0, 1), 1),)):
            self.assertIs(False, shows_weights(TWO, LINE, PRICES, 1, value))
