"""Bounds: for each two spots, how far the first one lies above the second one at most.

Spot 0 is "zero", spot k the k-th mark counted from 1. Bounds are a tuple of rows:
bounds[x][y] is the greatest number that x - y has at any recording, None if there is
no greatest. There always is a recording. A limit (x, y, number) says that x - y is at
most this number; every mark is 0 or greater without a limit that says so.
"""


def free_bounds(many):
    """The bounds of so many marks about which nothing is known."""
    rows = [tuple([0] * (many + 1))]
    for mark in range(1, many + 1):
        rows.append(tuple([0 if spot == mark else None for spot in range(many + 1)]))
    return tuple(rows)


def is_barred(bounds, x, y, number):
    """True if no recording keeps the limit."""
    back = bounds[y][x]
    return back is not None and back + number < 0


def is_kept(bounds, x, y, number):
    """True if each recording keeps the limit."""
    most = bounds[x][y]
    return most is not None and most <= number


def lesser_row(row, step, onward):
    """The row, where going on from another spot behind the step gives less."""
    return tuple([
        old if more is None or (old is not None and old <= step + more) else step + more
        for old, more in zip(row, onward)
    ])


def tightened(bounds, x, y, number):
    """The bounds with a limit that is not barred."""
    rows = []
    for row in bounds:
        if row[x] is None or (row[y] is not None and row[y] <= row[x] + number):
            rows.append(row)
        else:
            rows.append(lesser_row(row, row[x] + number, bounds[y]))
    return tuple(rows)


def open_limits(bounds, limits):
    """Those of the limits that some recording breaks; None if one of them is barred."""
    left = []
    for limit in limits:
        x, y, number = limit
        back = bounds[y][x]
        if back is not None and back + number < 0:
            return None
        most = bounds[x][y]
        if most is None or most > number:
            left.append(limit)
    return left


def narrowed(bounds, limits):
    """The bounds with all these limits; None if no recording is left."""
    left = open_limits(bounds, limits)
    if left is None:
        return None
    closer = bounds
    for x, y, number in left:
        if is_barred(closer, x, y, number):
            return None
        closer = tightened(closer, x, y, number)
    return closer


def lies_in(first, second):
    """True if each recording of the first bounds is one of the second ones."""
    for row, wider in zip(first, second):
        for number, most in zip(row, wider):
            if most is not None and (number is None or number > most):
                return False
    return True


def hull_bounds(first, second):
    """The least bounds that have the recordings of both."""
    rows = []
    for row, other in zip(first, second):
        pairs = list(zip(row, other))
        rows.append(tuple([None if one is None or two is None else max(one, two) for one, two in pairs]))
    return tuple(rows)


def least_numbers(bounds):
    """The recording in which each mark is least."""
    return tuple([-number for number in bounds[0][1:]])


def least_order(bounds):
    """What bounds are ordered by: their least recording, by its sum, then as a tuple."""
    least = least_numbers(bounds)
    return (sum(least), least)


def fits(bounds, numbers):
    """True if the numbers, one for each mark, are a recording."""
    clock = (0,) + numbers
    for here, row in zip(clock, bounds):
        for there, most in zip(clock, row):
            if most is not None and here - there > most:
                return False
    return True


def is_tied(bounds, x, y):
    """True if x - y is the same at all recordings."""
    onward, back = bounds[x][y], bounds[y][x]
    return onward is not None and back is not None and onward + back == 0


def is_bridged(bounds, x, y, spots):
    """True if what is known of x - y follows from what is known of both and another spot."""
    row, most = bounds[x], bounds[x][y]
    for spot in spots:
        if spot != x and spot != y and row[spot] is not None:
            onward = bounds[spot][y]
            if onward is not None and row[spot] + onward == most:
                return True
    return False


def ring_limits(bounds, group):
    """Limits that tie the spots of a group, one to the next one and the last one to the first one."""
    if len(group) < 2:
        return []
    return [(x, y, bounds[x][y]) for x, y in zip(group, group[1:] + group[:1])]


def head_of(bounds, spot):
    """The least of the spots that are tied to this one, the first one if several are least.

    If one of them is nothing but 0 or greater, which needs no limit, it is this one.
    """
    twins = [other for other in range(len(bounds)) if is_tied(bounds, spot, other)]
    least = min([(-bounds[0][twin], twin) for twin in twins])
    return least[1]


def heads_of(bounds):
    """For each spot the head of those that are tied to it."""
    spots = range(len(bounds))
    for x in spots:
        for y in range(x):
            if is_tied(bounds, x, y):
                return [head_of(bounds, spot) for spot in spots]
    return list(spots)


def needed_limits(bounds):
    """Limits that make the bounds, none of which follows from the others."""
    # Tied spots bridge one another in a circle, so one of each group stands for all of it.
    heads = heads_of(bounds)
    chosen = [spot for spot, head in enumerate(heads) if spot == head]
    rings = []
    if len(chosen) < len(heads):
        groups = [[spot for spot, other in enumerate(heads) if other == head] for head in chosen]
        rings = [limit for group in groups for limit in ring_limits(bounds, group)]
    others = [
        (x, y, bounds[x][y]) for x in chosen for y in chosen
        if x != y and bounds[x][y] is not None and not is_bridged(bounds, x, y, chosen)]
    return [limit for limit in [*rings, *others] if limit[0] != 0 or limit[2] != 0]


def with_free_spot(bounds):
    """The bounds with one more spot about which nothing is known, which may be below 0, too."""
    last = tuple([*[None for _ in bounds], 0])
    return (*[(*row, None) for row in bounds], last)
