"""What is heard at the end: runs, the rows that pins stand in, and shapes."""

from unknowntakes.pieces import runs_of


def number_at(bounds, place):
    """The number of a spot place at the one recording of the bounds."""
    return bounds[place[0]][0] + place[1]


def run_at(bounds, run):
    """A run with its numbers at the one recording of the bounds."""
    if run[0] == "":
        return run
    take, lows, highs = run
    start = max([number_at(bounds, low) for low in lows])
    return (take, start, min([number_at(bounds, high) for high in highs]))


def runs_at(clock, items):
    """The runs of items, pins aside, with their numbers at the one recording of the clock."""
    return tuple([run_at(clock.bounds, run) for run in runs_of(clock, items)])


def row_at(clock, items):
    """The runs between each two neighbouring pins, with these pins, at the one recording of the clock."""
    told = []
    stretch = []
    for item in items:
        if item[0] is None:
            told.extend(runs_at(clock, stretch))
            told.append(("pin", item[1]))
            stretch = []
        else:
            stretch.append(item)
    told.extend(runs_at(clock, stretch))
    return tuple(told)


def rows_at(clock, rows):
    """All rows, told like this."""
    return tuple([row_at(clock, row) for row in rows])


def outcome_at(clock, outcome):
    """An outcome with runs for its rows, at the one recording of the clock."""
    if outcome[0] != "sound":
        return outcome
    return ("sound", tuple([runs_at(clock, row) for row in outcome[1]]))


def track_runs(clock, outcome):
    """For each track of a sound the list of its runs."""
    return [runs_of(clock, row) for row in outcome[1]]


def shape_of(tracks):
    """The shape of a sound with these runs."""
    return ("sound", tuple([tuple([run[0] if run[0] else f"{run[2]}" for run in runs]) for runs in tracks]))


def least_of(bounds, place):
    """The least number that a place has at recordings of the bounds."""
    return place[1] - bounds[0][place[0]]


def most_of(bounds, place):
    """The greatest number that a place has at recordings of the bounds, None if there is none."""
    most = bounds[place[0]][0]
    return None if most is None else most + place[1]


def run_ends(bounds, run):
    """(least from, greatest from, least to, greatest to) of a run; None where there is no greatest."""
    if run[0] == "":
        return (0, 0, run[2], run[2])
    _, lows, highs = run
    # All spots are least at one recording, and several that can be as great as one likes can be so together.
    starts = [most_of(bounds, low) for low in lows]
    stops = [most for most in [most_of(bounds, high) for high in highs] if most is not None]
    return (max([least_of(bounds, low) for low in lows]), None if None in starts else max(starts),
            min([least_of(bounds, high) for high in highs]), min(stops) if stops else None)


def wider_ends(one, two):
    """The ends over the recordings of both."""
    tops = [None if one[at] is None or two[at] is None else max(one[at], two[at]) for at in (1, 3)]
    return (min(one[0], two[0]), tops[0], min(one[2], two[2]), tops[1])


def ends_of(leaves):
    """For each track and each run its ends over leaves (bounds, for each track its runs) of one shape."""
    ends = [[run_ends(leaves[0][0], run) for run in runs] for runs in leaves[0][1]]
    for bounds, tracks in leaves[1:]:
        ends = [[wider_ends(old, run_ends(bounds, run)) for old, run in zip(row, runs)]
                for row, runs in zip(ends, tracks)]
    return tuple([tuple(row) for row in ends])


def run_in_places(clock, run):
    """A run with one spot place for its from and one for its to."""
    return run if run[0] == "" else (run[0], clock.greatest_of(run[1]), clock.least_of(run[2]))


def outcome_in_places(clock, outcome):
    """An outcome with runs in spot places for its rows, in tuples."""
    if outcome[0] != "sound":
        return outcome
    tracks = track_runs(clock, outcome)
    return ("sound", tuple([tuple([run_in_places(clock, run) for run in runs]) for runs in tracks]))
