"""The greatest sum of places over all recordings of bounds, and pairs that show it.

A sum adds the numbers of some spot places (see clocks) and takes away those of others. Its
needs are, for each spot, how often more it is added than taken away; spot 0 makes up for
the others, so that all needs together are 0. Pairs {(x, y): times} that meet the needs bound
the sum, since times * (x - y) is at most times * bounds[x][y]. The cheapest such pairs show
the greatest sum, and the recordings that have it are those at which no pair gives way.
"""

from unknowntakes.bounds import least_numbers, narrowed


def needs_of(many, plus, minus):
    """The needs of a sum, for so many spots."""
    needs = [0] * many
    for spot, _ in plus:
        needs[spot] += 1
    for spot, _ in minus:
        needs[spot] -= 1
    needs[0] -= sum(needs)
    return needs


def amounts_of(plus, minus):
    """What the amounts of the places add to the sum."""
    return sum([amount for _, amount in plus]) - sum([amount for _, amount in minus])


def roads(bounds, needs, pairs):
    """(x, y, cost) for each way to bring one more from x to y, or one less from y to x."""
    spots = range(len(needs))
    takers = [y for y in spots if needs[y] < 0]
    ahead = [(x, y, bounds[x][y]) for x in spots if needs[x] > 0 for y in takers if bounds[x][y] is not None]
    return ahead + [(y, x, -bounds[x][y]) for x, y in pairs if pairs[x, y] > 0]


def cheapest_way(left, ways):
    """The spots of a cheapest way from one that has something left to one that lacks it; None if there is none."""
    best = {spot: (0, (spot,)) for spot, many in enumerate(left) if many > 0}
    changed = True
    while changed:
        changed = False
        for x, y, cost in ways:
            if x in best and (y not in best or best[x][0] + cost < best[y][0]):
                best[y] = (best[x][0] + cost, (*best[x][1], y))
                changed = True
    reached = [best[spot] for spot in best if left[spot] < 0]
    return min(reached)[1] if reached else None


def brought(pairs, needs, way, many):
    """The pairs when so many more are brought along the way."""
    more = {pair: pairs[pair] for pair in pairs}
    for x, y in zip(way, way[1:]):
        if needs[x] > 0:
            more[x, y] = more.get((x, y), 0) + many
        else:
            more[y, x] = more[y, x] - many
    return more


def cheapest_pairs(bounds, needs):
    """The pairs with the least bound that meet the needs, None if there are none."""
    left = list(needs)
    pairs = {}
    while max(left) > 0:
        way = cheapest_way(left, roads(bounds, needs, pairs))
        if way is None:
            return None
        back = [pairs[y, x] for x, y in zip(way, way[1:]) if needs[x] < 0]
        many = min([left[way[0]], -left[way[-1]], *back])
        pairs = brought(pairs, needs, way, many)
        left[way[0]] -= many
        left[way[-1]] += many
    return {pair: pairs[pair] for pair in pairs if pairs[pair] > 0}


def bound_of(bounds, pairs):
    """The greatest that the pairs let the sum of marks be."""
    return sum([pairs[x, y] * bounds[x][y] for x, y in pairs])


def greatest_sum(bounds, plus, minus):
    """(the greatest sum, pairs that show it), None if there is no greatest."""
    pairs = cheapest_pairs(bounds, needs_of(len(bounds), plus, minus))
    if pairs is None:
        return None
    return bound_of(bounds, pairs) + amounts_of(plus, minus), pairs


def least_with(bounds, pairs):
    """The least recording at which the pairs have their bound."""
    return least_numbers(narrowed(bounds, [(y, x, -bounds[x][y]) for x, y in pairs]))
