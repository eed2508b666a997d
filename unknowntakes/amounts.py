"""Ranges of amounts, and the bounds at which the amount of a place is not known.

A range is (low, high), both in it; low is None if it has no lower end, high if it has no upper one.
A place whose amount is not known has a spot of its own, about which nothing is known.
"""

from unknowntakes.clocks import Clock
from unknowntakes.edits import with_place
from unknowntakes.plays import begun_all, gone_on
from unknowntakes.steps import Score


def does_touch(one, two):
    """True if two ranges overlap or stand side by side."""
    apart = one[1] is not None and two[0] is not None and one[1] + 1 < two[0]
    return not apart and not (two[1] is not None and one[0] is not None and two[1] + 1 < one[0])


def joined(one, two):
    """The range of two that touch."""
    low = None if one[0] is None or two[0] is None else min(one[0], two[0])
    high = None if one[1] is None or two[1] is None else max(one[1], two[1])
    return (low, high)


def with_range(ranges, more):
    """Ranges, none of which touch, with one more."""
    wide = more
    for other in ranges:
        if does_touch(wide, other):
            wide = joined(wide, other)
    return [*[other for other in ranges if not does_touch(wide, other)], wide]


def is_in_one(ranges, small):
    """True if all of a range lies in one of the ranges."""
    for wide in ranges:
        if does_touch(wide, small) and joined(wide, small) == wide:
            return True
    return False


def start_order(wide):
    """What ranges are sorted by."""
    return (0, 0) if wide[0] is None else (1, wide[0])


def left_between(ranges):
    """The ranges of all numbers that are in none of these, which do not touch, ascending."""
    left = []
    start, is_open = None, True
    for low, high in sorted(ranges, key=start_order):
        if low is not None:
            left.append((start, low - 1))
        start, is_open = (None, False) if high is None else (high + 1, True)
    return [*left, (start, None)] if is_open else left


def freed_score(program, spots, step, which, spot):
    """The program as it is played with (spot, 0) for a place of this step."""
    score = Score(program, spots)
    score.steps[step] = with_place(score.steps[step], which, (spot, 0))
    return score


def range_of(bounds, spot, mark):
    """The range of the amounts that a place with a spot of its own has behind its mark."""
    low, high = bounds[mark][spot], bounds[spot][mark]
    return (None if low is None else -low, high)


def ranges_where(scores, bounds, finish, spot, mark):
    """Ranges, none of which touch, of the amounts of this place with which the result is True at some recording."""
    ranges = []
    waiting = [(bounds, begun_all(scores))]
    while waiting:
        part, runs = waiting.pop()
        # Amounts that are in the ranges already need not be looked at again.
        if not is_in_one(ranges, range_of(part, spot, mark)):
            clock = Clock(part)
            over, onward = gone_on(clock, scores, runs, finish)
            waiting.extend([(turn.no, runs) for turn in clock.turns])
            if not over:
                waiting.append((clock.bounds, onward))
            elif onward:
                ranges = with_range(ranges, range_of(clock.bounds, spot, mark))
    return ranges
