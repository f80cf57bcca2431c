"""Price lists: the cheapest remedies, and weights that show that nothing is cheaper."""

from ringfences.cutting import cheapest_cut, greatest_weights, is_cut
from ringfences.pairs import is_triple, live_pairs
from ringfences.programs import is_integer
from ringfences.remedies import is_ascending, is_remedy

MOST_PRICE = 1000


def is_price_list(program, value):
    """Whether any value is a price list of a program."""
    if not isinstance(value, tuple) or not all([is_priced(program, row) for row in value]):
        return False
    # No remedy stands twice, so that the remedies alone decide the order.
    return is_ascending([remedy for remedy, _ in value])


def cheapest(program, buffers, price_list):
    """The least sum of prices and such remedies of the list that cut each live pair, None if there are none."""
    return cheapest_cut(live_pairs(program, buffers), price_list)


def weights(program, buffers, price_list):
    """Weights whose sum is the total of cheapest, None if there is none."""
    pairs = live_pairs(program, buffers)
    if cheapest_cut(pairs, price_list) is None:
        return None
    return greatest_weights(pairs, price_list)


def shows_weights(program, buffers, price_list, total, value):
    """Whether any value is weights whose sum is a total, any value."""
    if not isinstance(value, tuple) or not all([is_weighted(row) for row in value]):
        return False
    live = live_pairs(program, buffers)
    if not is_ascending([pair for pair, _ in value]) or not all([pair in live for pair, _ in value]):
        return False
    if not is_integer(total) or sum([weight for _, weight in value]) != total:
        return False
    return all([weight_cut(remedy, value) <= price for remedy, price in price_list])


def weight_cut(remedy, weighted):
    """The sum of the weights of the pairs that a remedy cuts."""
    return sum([weight for pair, weight in weighted if is_cut(remedy, pair)])


def is_priced(program, value):
    """Whether any value is a pair of a remedy of a program and a price."""
    if not isinstance(value, tuple) or len(value) != 2:
        return False
    return is_remedy(program, value[0]) and is_integer(value[1]) and 0 <= value[1] <= MOST_PRICE


def is_weighted(value):
    """Whether any value has the form of a pair and its weight; the pair need not be a live one."""
    if not isinstance(value, tuple) or len(value) != 2:
        return False
    return is_triple(value[0]) and is_integer(value[1]) and value[1] >= 1
