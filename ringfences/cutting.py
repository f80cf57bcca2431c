"""What remedies cut, and the cheapest ones that cut pairs.

The remedies and pairs of a thread lie on one row of spots: the instruction with the number at is
at the spot 2 * at, what is put in ahead of it at the spot before. A pair reaches from its early
instruction to its late one, and a remedy cuts it if its spot is within this reach.
"""


def is_cut(remedy, pair):
    """Whether a remedy cuts a pair."""
    thread, early, late = pair
    return remedy[1] == thread and 2 * early <= spot_of(remedy) <= 2 * late


def spot_of(remedy):
    """The spot of a remedy within its thread."""
    word, _, at = remedy
    if word == "swap":
        return 2 * at
    return 2 * at - 1


def cheapest_cut(pairs, priced):
    """The least sum of prices and such remedies, of pairs (remedy, price), that cut all pairs.

    None if some pair is cut by none of the remedies.
    """
    total = 0
    remedies = []
    for thread in sorted({pair[0] for pair in pairs}):
        reaches = [(2 * early, 2 * late) for other, early, late in pairs if other == thread]
        offers = sorted([(spot_of(remedy), price, remedy) for remedy, price in priced if remedy[1] == thread])
        way = cheapest_way(reaches, offers)
        if way is None:
            return None
        total += way[0]
        remedies.extend(way[2])
    return (total, tuple(sorted(remedies)))


def cheapest_way(reaches, offers):
    """Of ascending offers (spot, price, remedy) the cheapest ones such that one is within each reach.

    A way is their sum of prices, their number, and their remedies; None if there is none.
    """
    # For each offer that can be the last one so far: its spot, and the best way to it.
    ways = [(-1, (0, 0, ()))]
    for spot, price, remedy in offers:
        best = best_way(reaches, ways, spot)
        if best is not None:
            total, many, remedies = best
            ways.append((spot, (total + price, many + 1, remedies + (remedy,))))
    beyond = max([last for _, last in reaches]) + 1
    return best_way(reaches, ways, beyond)


def best_way(reaches, ways, spot):
    """The best way that leaves out no reach that ends before a spot, None if there is none."""
    # Of the reaches that end before the spot, a way misses those that begin behind its last offer.
    needed = max([first for first, last in reaches if last < spot], default=-1)
    return min([way for last, way in ways if last >= needed], default=None)


def greatest_weights(pairs, priced):
    """Weights, ascending, whose sum is that of cheapest_cut; each pair is cut by one of the remedies."""
    # The pairs that end first take all that their remedies have left. With less for such a pair, no
    # two later ones could have more: what shares a remedy with it is also cut by its remedies
    # behind that one, so that both would need the same of what it left.
    left = {remedy: price for remedy, price in priced}
    found = []
    for late, thread, early in sorted([(late, thread, early) for thread, early, late in pairs]):
        pair = (thread, early, late)
        cutting = [remedy for remedy in left if is_cut(remedy, pair)]
        weight = min([left[remedy] for remedy in cutting])
        if weight > 0:
            found.append((pair, weight))
            for remedy in cutting:
                left[remedy] -= weight
    return tuple(sorted(found))
