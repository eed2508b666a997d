"""Questions about all recordings of a sheet: shapes, their ends, faults, and how often moments are heard."""

from unknowntakes.asking import check_places, score_of
from unknowntakes.bounds import least_numbers, narrowed, with_free_spot
from unknowntakes.clocks import ZERO, ways
from unknowntakes.errors import NoShape, UnknownName
from unknowntakes.faults import check_faults, faults_on, is_bad, pieces_of_take
from unknowntakes.pieces import is_in
from unknowntakes.plays import leaves_of, played_tree, sounds_of
from unknowntakes.sounds import ends_of, shape_of, track_runs
from unknowntakes.steps import place_on
from unknowntakes.verdicts import family_with, parted


class Finding:
    """The bad and the good recordings, as families."""

    def __init__(self, bad, good):
        self.bad = bad
        self.good = good

    @property
    def state(self):
        """Whether all recordings are good ("sure"), none is ("never"), or some are ("open")."""
        if not self.bad:
            return "sure"
        return "open" if self.good else "never"

    @property
    def least_bad(self):
        """The least bad recording, None if there is none."""
        return self.bad.least

    @property
    def least_good(self):
        """The least good recording, None if there is none."""
        return self.good.least

    def __bool__(self):
        return not self.bad


def lesser(one, two):
    """True if the recording one comes ahead of two, or there is no two."""
    return two is None or (sum(one), one) < (sum(two), two)


def sounds_told(clock, outcome):
    """(shape, for each track its runs) of an outcome."""
    if outcome[0] != "sound":
        return outcome, None
    tracks = track_runs(clock, outcome)
    return shape_of(tracks), tracks


def leaves_told(sheet, program):
    """(bounds, shape, for each track its runs) for bounds that are together all recordings of the sheet."""
    branches = played_tree((score_of(sheet, program),), sheet.bounds, sounds_told)
    return [(bounds, shape, tracks) for bounds, (shape, tracks) in leaves_of(branches)]


def shapes(sheet, program):
    """(shape, the least recording with it) for each shape that comes about."""
    found = {}
    for bounds, shape, _ in leaves_told(sheet, program):
        least = least_numbers(bounds)
        if lesser(least, found.get(shape)):
            found[shape] = least
    return [(shape, found[shape]) for shape in sorted(found)]


def ends(sheet, program, shape):
    """For each track of a shape and each run the least and the greatest of its from and of its to."""
    leaves = [(bounds, tracks) for bounds, told, tracks in leaves_told(sheet, program) if told == shape]
    if not leaves or leaves[0][1] is None:
        raise NoShape()
    return ends_of(leaves)


def times_at(bounds, rows, take, lows, highs):
    """(bounds, how often) of the moments in range of a take, for a sound; the moment is the last spot."""
    spot = len(bounds)
    wide = with_free_spot(bounds)
    limits = [(low[0], spot, -low[1]) for low in lows] + [(spot, high[0], high[1] - 1) for high in highs]
    ranged = narrowed(wide, limits)
    if ranged is None:
        return []
    pieces = pieces_of_take(bounds, rows, take)
    return ways(ranged, lambda clock: len([piece for piece in pieces if is_in(clock, piece, (spot, 0))]))


def first_of(found, sign):
    """(number, recording, k) for the least number times the sign, and the least recording and k with it."""
    rows = []
    for bounds, number in found:
        *recording, k = least_numbers(bounds)
        rows.append((sign * number, sum(recording), tuple(recording), k))
    number, _, recording, k = min(rows)
    return (sign * number, recording, k)


def times(sheet, program, take, P, Q):
    """How often moments in range are heard: the least and the greatest number, and where."""
    score = score_of(sheet, program)
    if take not in sheet.takes:
        raise UnknownName(take)
    check_places(sheet, (P, Q), 1)
    start, end = place_on(score.spots, P), place_on(score.spots, Q)
    found = []
    for bounds, rows in sounds_of(score, sheet.bounds):
        found.extend(times_at(bounds, rows, take, (start, ZERO), (end, (score.spots[take], 0))))
    return (first_of(found, 1), first_of(found, -1)) if found else None


def ask(sheet, program, *faults):
    """Which recordings have at least one of the faults."""
    score = score_of(sheet, program)
    check_faults(sheet, program, faults)
    rows = faults_on(faults, score.spots)
    branches = played_tree((score,), sheet.bounds, lambda clock, outcome: is_bad(clock, score, outcome, rows))
    bad, good = parted(branches)
    return Finding(family_with(sheet, bad), family_with(sheet, good))
