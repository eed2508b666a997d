"""Whether sounds tell a mark: two recordings with the same sound and another number of the mark.

A voice is a part of the recordings with one sound in places: (least sum, bounds, ends, ties);
ends has "zero" and the from and the to of each run, ties the distances at which the mark
always is from ends.
"""

from unknowntakes.bounds import is_tied, least_numbers, narrowed
from unknowntakes.clocks import ZERO
from unknowntakes.pairs import behind, equal_limits, halves_order, side_by_side
from unknowntakes.plays import played_tree
from unknowntakes.sounds import least_of, most_of, outcome_in_places, shape_of
from unknowntakes.verdicts import plain_leaves


def ends_in(outcome):
    """"zero", and the from and the to of all runs of takes, in one list."""
    ends = [ZERO]
    for runs in outcome[1]:
        for run in runs:
            if run[0] != "":
                ends.extend(run[1:])
    return ends


def ties_of(bounds, spot, ends):
    """{number of an end: how far behind it the mark of this spot is} where this is always the same."""
    ties = {}
    for at, (other, amount) in enumerate(ends):
        if is_tied(bounds, spot, other):
            ties[at] = bounds[spot][other] - amount
    return ties


def voice_of(bounds, spot, outcome):
    """The voice of bounds with this sound in places."""
    ends = ends_in(outcome)
    return (sum(least_numbers(bounds)), bounds, ends, ties_of(bounds, spot, ends))


def least_sum(voice):
    """The sum of the least recording of a voice."""
    return voice[0]


def voices_of(score, bounds, spot):
    """{shape: its voices, those with the least recordings first}."""
    voices = {}
    for part, outcome in plain_leaves(played_tree((score,), bounds, outcome_in_places)):
        if outcome[0] == "sound":
            voices.setdefault(shape_of(outcome[1]), []).append(voice_of(part, spot, outcome))
    return {shape: sorted(voices[shape], key=least_sum) for shape in voices}


def may_be_equal(bounds, place, others, other):
    """True unless all numbers of a place at some bounds are above or below all those of one at others."""
    most, top = most_of(bounds, place), most_of(others, other)
    return ((most is None or most >= least_of(others, other))
            and (top is None or top >= least_of(bounds, place)))


def may_be_untold(one, two, spot):
    """False if two voices surely do not sound the same while the mark is less in the first one."""
    for at in one[3]:
        if two[3].get(at) == one[3][at]:
            return False
    top = most_of(two[1], (spot, 0))
    if top is not None and least_of(one[1], (spot, 0)) >= top:
        return False
    for place, other in zip(one[2], two[2]):
        if not may_be_equal(one[1], place, two[1], other):
            return False
    return True


def untold_bounds(one, two, spot):
    """The bounds of the pairs of two voices that sound the same while the mark is less in the first one, or None."""
    marks = len(one[1]) - 1
    limits = [(spot, spot + marks, -1)]
    for place, other in zip(one[2], two[2]):
        limits.extend(equal_limits(place, behind(other, marks)))
    return narrowed(side_by_side(one[1], two[1]), limits)


def least_untold(score, bounds, spot):
    """The least pair of recordings with the same sound and another number of the mark; None if there is none."""
    best = None
    groups = voices_of(score, bounds, spot)
    for voices in groups.values():
        for one in voices:
            for two in voices:
                if (best is None or one[0] + two[0] <= best[0]) and may_be_untold(one, two, spot):
                    untold = untold_bounds(one, two, spot)
                    if untold is not None and (best is None or halves_order(untold) < best):
                        best = halves_order(untold)
    return None if best is None else best[1]
