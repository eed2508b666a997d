"""Bounds of two recordings at once, and the least pairs that they have.

A pair (one, two) is less than another one if the sum of all its numbers is less, or if the
sums are equal and it comes first as a tuple.
"""

from unknowntakes.bounds import least_numbers, narrowed, with_free_spot


def with_twin(bounds, spot):
    """The bounds with one more spot, the last one, of which is known what is known of this spot."""
    twin = len(bounds)
    limits = []
    for other in range(len(bounds)):
        if other != spot:
            onward, back = bounds[spot][other], bounds[other][spot]
            limits.extend([(twin, other, onward)] if onward is not None else [])
            limits.extend([(other, twin, back)] if back is not None else [])
    return narrowed(with_free_spot(bounds), limits)


def pair_order(one, two):
    """What pairs are ordered by."""
    return (sum(one) + sum(two), (one, two))


def twin_order(bounds, spot):
    """The order of the least pair of bounds whose last spot is the twin of this one."""
    *numbers, twin = least_numbers(bounds)
    one = tuple(numbers)
    return pair_order(one, (*one[:spot - 1], twin, *one[spot:]))


def behind(place, many):
    """A spot place of a second recording, whose marks stand behind so many of the first one."""
    return (place[0] + many if place[0] else 0, place[1])


def added(one, two):
    """What two numbers add up to, None if one of them is None."""
    return None if one is None or two is None else one + two


def side_by_side(one, two):
    """The bounds of all pairs of a recording of one and a recording of two; the marks of two stand behind."""
    rows = [(*row, *[added(row[0], most) for most in two[0][1:]]) for row in one]
    rows.extend([(*[added(row[0], most) for most in one[0]], *row[1:]) for row in two[1:]])
    return tuple(rows)


def halves_order(bounds):
    """The order of the least pair of bounds side by side."""
    numbers = least_numbers(bounds)
    middle = len(numbers) // 2
    return pair_order(numbers[:middle], numbers[middle:])


def equal_limits(one, two):
    """Limits that two places have the same number."""
    return [(one[0], two[0], two[1] - one[1]), (two[0], one[0], one[1] - two[1])]
