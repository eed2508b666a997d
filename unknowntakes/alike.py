"""Whether rows (see pieces) have the same moments, hush and pins one behind the other."""

from unknowntakes.kinds import is_whole
from unknowntakes.pieces import has_many, hush_of, joins, piece_of, without_pins


def unlike_middles(items, others):
    """Both without what they share at the beginning and at the end."""
    many = min(len(items), len(others))
    start = 0
    while start < many and items[start] == others[start]:
        start = start + 1
    stop = 0
    while stop < many - start and items[-1 - stop] == others[-1 - stop]:
        stop = stop + 1
    return items[start:len(items) - stop], others[start:len(others) - stop]


def is_there(clock, item):
    """True for a pin, hush, and a piece that has moments."""
    return item[0] is None or item[0] == "" or has_many(clock, item, 1)


def is_equal(clock, one, two):
    """True if two places have the same number."""
    return clock.is_most(one, two) and clock.is_most(two, one)


def begin_alike(clock, one, two):
    """True if two pieces, neither of them empty, begin with the same moment."""
    if one[0] != two[0]:
        return False
    return sorted(one[1]) == sorted(two[1]) or is_equal(clock, clock.greatest_of(one[1]), clock.greatest_of(two[1]))


def ends_beyond(clock, one, two):
    """What each of two pieces that begin alike has behind the end of the other one."""
    high, other = clock.least_of(one[2]), clock.least_of(two[2])
    if clock.is_most(high, other):
        return (), piece_of(clock.bounds, two[0], (high,), (other,))
    return piece_of(clock.bounds, one[0], (other,), (high,)), ()


def rests(clock, one, two):
    """What is left of two items, both there, without what they begin with; None if they begin unlike."""
    if one[0] is None or two[0] is None:
        return None
    if one[0] == "" and two[0] == "":
        many = min(one[2], two[2])
        return hush_of(one[2] - many), hush_of(two[2] - many)
    if one[0] == "" or two[0] == "" or not begin_alike(clock, one, two):
        return None
    return ends_beyond(clock, one, two)


def is_nothing(clock, items):
    """True if none of the items is there."""
    for item in items:
        if is_there(clock, item):
            return False
    return True


def is_same(clock, items, others):
    """True if the items have the same moments, hush and pins as the others."""
    middle, other = unlike_middles(items, others)
    # What is left of both, the first item last.
    left, right = list(middle[::-1]), list(other[::-1])
    while left and right:
        one, two = left.pop(), right.pop()
        if one != two:
            if not is_there(clock, one):
                right.append(two)
            elif not is_there(clock, two):
                left.append(one)
            else:
                behind = rests(clock, one, two)
                if behind is None:
                    return False
                left.extend(behind[0])
                right.extend(behind[1])
    return is_nothing(clock, left) and is_nothing(clock, right)


def are_rows_alike(clock, rows, others, further):
    """True if all rows have the same moments and hush, further: and pins."""
    for row, other in zip(rows, others):
        if further:
            is_so = is_same(clock, row, other)
        else:
            is_so = is_same(clock, without_pins(clock.bounds, row), without_pins(clock.bounds, other))
        if not is_so:
            return False
    return True


def are_alike(clock, outcome, other, further):
    """True if two outcomes are the same: all wrongs are, and all declined ones."""
    if outcome[0] != other[0]:
        return False
    return outcome[0] != "sound" or are_rows_alike(clock, outcome[1], other[1], further)


def are_runs(clock, items):
    """True if these are pieces and hush such as runs are: none is empty, and no two that are neighbours join."""
    for item in items:
        if not is_there(clock, item):
            return False
    for item, behind in zip(items, items[1:]):
        if item[0] == behind[0] and (item[0] == "" or joins(clock, item[2], behind[1])):
            return False
    return True


def given_item(run, place_of):
    """A run that is given as an item, its ends turned into spot places; None if it is no run.

    place_of makes a spot place of an end, None if it is none.
    """
    if not isinstance(run, tuple) or len(run) != 3 or not isinstance(run[0], str):
        return None
    take, start, stop = run
    if take == "":
        return run if is_whole(start) and start == 0 and is_whole(stop) and stop > 0 else None
    low, high = place_of(start), place_of(stop)
    return None if low is None or high is None else (take, (low,), (high,))


def given_rows(tracks, told, place_of):
    """The rows of a sound that is given as runs for each track; None if it is no such thing."""
    if not isinstance(told, tuple) or len(told) != len(tracks):
        return None
    rows = []
    for runs in told:
        items = [given_item(run, place_of) for run in runs] if isinstance(runs, tuple) else [None]
        if None in items:
            return None
        rows.append(items)
    return rows


def number_place(number):
    """The spot place of a number, None if it is none."""
    return (0, number) if is_whole(number) else None


def are_given(clock, outcome, rows):
    """True if the outcome is the sound with these rows, and the items in them are just as its runs are."""
    if outcome[0] != "sound":
        return False
    for items in rows:
        if not are_runs(clock, items):
            return False
    return are_rows_alike(clock, outcome[1], rows, False)
