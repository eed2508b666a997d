"""Sums over all recordings: spans of places, gaps between pins, and how far takes lag on tracks."""

from unknowntakes.asking import check_places, score_of
from unknowntakes.bounds import narrowed
from unknowntakes.clocks import ways
from unknowntakes.edits import is_fixed_pin
from unknowntakes.errors import BadPairs, UnknownName
from unknowntakes.families import by_size
from unknowntakes.flows import amounts_of, greatest_sum, least_with
from unknowntakes.kinds import is_whole
from unknowntakes.pieces import settled
from unknowntakes.pins import spot_of_pin
from unknowntakes.plays import sounds_of
from unknowntakes.sheets import names_of, spots_of
from unknowntakes.steps import place_on


class Sum:
    """The least and the greatest of numbers, None if there is none, and the least recordings that have them."""

    def __init__(self, lowest, highest, lowest_at, highest_at):
        self.lowest = lowest
        self.highest = highest
        self.lowest_at = lowest_at
        self.highest_at = highest_at


def check_sides(sheet, plus, minus):
    """BadPlace for the first that is no place, minus counted on; BadPairs if one side has more."""
    check_places(sheet, (*plus, *minus), 0)
    if len(plus) != len(minus):
        raise BadPairs()


def span(sheet, plus, minus):
    """The greatest that plus less minus has, pairs that show it, and the least recording with it."""
    check_sides(sheet, plus, minus)
    spots = spots_of(sheet.marks)
    found = greatest_sum(
        sheet.bounds, [place_on(spots, place) for place in plus], [place_on(spots, place) for place in minus])
    if found is None:
        return None
    greatest, pairs = found
    names = names_of(sheet.marks)
    told = [(names[x], names[y], pairs[x, y]) for x, y in pairs]
    return greatest, tuple(told), least_with(sheet.bounds, pairs)


def is_pair(names, pair):
    """True for (x, y, times): two unlike names of these and an integer from 1 on."""
    if not isinstance(pair, tuple) or len(pair) != 3:
        return False
    x, y, many = pair
    return x in names and y in names and x != y and is_whole(many) and many >= 1


def are_pairs(sheet, plus, minus, pairs):
    """True if these are pairs for the places."""
    names = names_of(sheet.marks)
    if not isinstance(pairs, tuple) or not all([is_pair(names, pair) for pair in pairs]):
        return False
    needs = {name: 0 for name in names}
    for mark, _ in plus:
        needs[mark] += 1
    for mark, _ in minus:
        needs[mark] -= 1
    for x, y, many in pairs:
        needs[x] -= many
        needs[y] += many
    return all([needs[mark] == 0 for mark in sheet.marks])


def pairs_bound(sheet, plus, minus, pairs):
    """What the pairs show that plus less minus is at most; None if they show nothing."""
    check_sides(sheet, plus, minus)
    if not are_pairs(sheet, plus, minus, pairs):
        return None
    bounds = [(sheet[x, y], many) for x, y, many in pairs]
    if not all([bound is not None for bound, _ in bounds]):
        return None
    return sum([bound * many for bound, many in bounds]) + amounts_of(plus, minus)


def check_pins(program, pins):
    """UnknownName for the first that is a fixed pin of no track of the program."""
    for pin in pins:
        if (pin.startswith("<") or pin.endswith(">")) and not is_fixed_pin(pin, program.tracks):
            raise UnknownName(pin)


def lengths(clock, items):
    """(plus, minus): places whose sums have the number of moments and hush among the items as their difference."""
    plus, minus = [], []
    for item in items:
        if item[0] == "":
            plus.append((0, item[2]))
        elif item[0] is not None:
            ends = settled(clock, item)
            if ends is not None:
                minus.append(ends[0])
                plus.append(ends[1])
    return plus, minus


def lengths_apart(clock, items, others):
    """(plus, minus) likewise for how many more there are among the items than among the others."""
    plus, minus = lengths(clock, items)
    more, less = lengths(clock, others)
    return [*plus, *less], [*minus, *more]


def items_apart(rows, one, two):
    """(items, others): what stands ahead of a spot on its track and of a second one, without what both share."""
    items, others = rows[one[0]][:max(one[1], 0)], rows[two[0]][:max(two[1], 0)]
    if one[0] != two[0]:
        return items, others
    shared = min(len(items), len(others))
    return items[shared:], others[shared:]


def gap_sums(bounds, rows, one, two):
    """(bounds, (plus, minus)) for the number of moments and hush ahead of the second spot less that of the first."""
    items, others = items_apart(rows, two, one)
    return ways(bounds, lambda clock: lengths_apart(clock, items, others))


def highest_of(found):
    """(the greatest of the sums (bounds, plus, minus), the least recording with it); (None, None) if there is none."""
    reached = []
    for bounds, plus, minus in found:
        result = greatest_sum(bounds, plus, minus)
        if result is None:
            return None, None
        reached.append((result[0], bounds, result[1]))
    highest = max([number for number, _, _ in reached])
    recordings = [least_with(bounds, pairs) for number, bounds, pairs in reached if number == highest]
    return highest, by_size(recordings)


def sum_of(found):
    """The Sum of all (bounds, (plus, minus)); None if there are none."""
    if not found:
        return None
    highest, highest_at = highest_of([(bounds, plus, minus) for bounds, (plus, minus) in found])
    lowest, lowest_at = highest_of([(bounds, minus, plus) for bounds, (plus, minus) in found])
    return Sum(None if lowest is None else -lowest, highest, lowest_at, highest_at)


def gap(sheet, program, p, q):
    """How many more moments and hush stand ahead of the pin q than ahead of the pin p at the end."""
    score = score_of(sheet, program)
    check_pins(program, (p, q))
    found = []
    for bounds, rows in sounds_of(score, sheet.bounds):
        one, two = spot_of_pin(score.tracks, rows, p), spot_of_pin(score.tracks, rows, q)
        if one is not None and two is not None:
            found.extend(gap_sums(bounds, rows, one, two))
    return sum_of(found)


def spots_of_take(score, rows, side):
    """The spots of the pieces of a take on a track."""
    track, take = side
    found = []
    for number, row in enumerate(rows):
        if score.tracks[number] == track:
            found.extend([(number, at) for at, item in enumerate(row) if item[0] == take])
    return found


def with_moment(bounds, lows, highs):
    """The bounds of the recordings at which some moment is not below the lows and below the highs."""
    return narrowed(bounds, [(low[0], high[0], high[1] - low[1] - 1) for low in lows for high in highs])


def lag_here(clock, rows, one, two):
    """(plus, minus) for how much later a moment is heard in the piece at one spot than in that at another."""
    items, others = items_apart(rows, one, two)
    plus, minus = lengths_apart(clock, items, others)
    start = clock.greatest_of(rows[one[0]][one[1]][1])
    return [*plus, clock.greatest_of(rows[two[0]][two[1]][1])], [*minus, start]


def lag_sums(bounds, rows, one, two, start, end):
    """(bounds, (plus, minus)) for the lags of the moments in range of two pieces."""
    first, second = rows[one[0]][one[1]], rows[two[0]][two[1]]
    heard = with_moment(bounds, (start, *first[1], *second[1]), (end, *first[2], *second[2]))
    return [] if heard is None else ways(heard, lambda clock: lag_here(clock, rows, one, two))


def check_side(sheet, program, side):
    """UnknownName for a track and a take that are not there."""
    track, take = side
    if track not in program.tracks:
        raise UnknownName(track)
    if take not in sheet.takes:
        raise UnknownName(take)


def lag(sheet, program, one, two, P, Q):
    """How much later moments from P up to before Q of one's take are heard on one's track than two's on two's."""
    score = score_of(sheet, program)
    check_side(sheet, program, one)
    check_side(sheet, program, two)
    check_places(sheet, (P, Q), 1)
    start, end = place_on(score.spots, P), place_on(score.spots, Q)
    found = []
    for bounds, rows in sounds_of(score, sheet.bounds):
        for first in spots_of_take(score, rows, one):
            for second in spots_of_take(score, rows, two):
                found.extend(lag_sums(bounds, rows, first, second, start, end))
    return sum_of(found)
