"""Programs compared, at all recordings of a sheet; and what the outcomes of one program tell of the marks."""

from unknowntakes.alike import are_alike, are_given, given_rows, number_place
from unknowntakes.asking import check_tracks_alike, clock_at, score_of
from unknowntakes.bounds import narrowed
from unknowntakes.errors import UnknownName
from unknowntakes.findings import Finding
from unknowntakes.pairs import twin_order, with_twin
from unknowntakes.plays import is_anywhere, least_where, play, played_tree
from unknowntakes.programs import Program
from unknowntakes.sounds import rows_at
from unknowntakes.steps import Score
from unknowntakes.telling import least_untold
from unknowntakes.verdicts import family_with, parted


def scores_of(sheet, first, second):
    """Both programs as they are played; UnknownName, then UnlikeTracks if they can't be compared."""
    scores = (score_of(sheet, first), score_of(sheet, second))
    check_tracks_alike(first, second)
    return scores


def compare(sheet, first, second, *, further=False):
    """At which recordings both programs have the same outcome, further: whatever edits are put behind both."""
    scores = scores_of(sheet, first, second)
    branches = played_tree(scores, sheet.bounds, lambda clock, one, two: not are_alike(clock, one, two, further))
    bad, good = parted(branches)
    return Finding(family_with(sheet, bad), family_with(sheet, good))


def pin_places(tracks, rows):
    """{pin: (track, how many moments and hush stand ahead of it)} for rows with pins, in the order of the pins."""
    places = {}
    for track, row in zip(tracks, rows):
        ahead = 0
        for item in row:
            if len(item) == 2:
                places[item[1]] = (track, ahead)
            else:
                ahead = ahead + item[2] - item[1]
    return places


def moved_edit(places, others):
    """A hush or a cut that shows that some pin does not stand at the same place in both; None if all do."""
    for pin in [*places, *others]:
        if pin not in places or pin not in others or places[pin][0] != others[pin][0]:
            return ("hush", pin, 1)
        if places[pin] != others[pin]:
            return ("cut", f"<{places[pin][0]}", pin)
    return None


def crossed_edit(places, others):
    """A cut that shows that two pins that stand at one place stand the other way round; None if no two do."""
    for pin, other in zip(places, others):
        if pin != other:
            return ("cut", pin, other)
    return None


def telling_edit(sheet, first, second, numbers):
    """An edit with which behind both programs their outcomes are unlike at this recording; () if they are already.

    None if there is no such edit.
    """
    scores = scores_of(sheet, first, second)
    clock = clock_at(sheet, numbers)
    one, two = play(clock, scores[0]), play(clock, scores[1])
    if not are_alike(clock, one, two, False):
        return ()
    if one[0] != "sound":
        return None
    places = pin_places(first.tracks, rows_at(clock, one[1]))
    others = pin_places(second.tracks, rows_at(clock, two[1]))
    moved = moved_edit(places, others)
    return crossed_edit(places, others) if moved is None else moved


def clash(sheet, base, first, second):
    """At which recordings it is all the same whether the edits of first or those of second come first behind base."""
    one = Program(base.tracks, *base.edits, *first, *second)
    two = Program(base.tracks, *base.edits, *second, *first)
    return compare(sheet, one, two, further=True)


def stay_alike(sheet, scores):
    """True if two programs stay alike at all recordings."""
    return not is_anywhere(scores, sheet.bounds, lambda clock, one, two: not are_alike(clock, one, two, True))


def thin(sheet, program):
    """The program without the steps that can be left out, from the last one to the first one."""
    score = score_of(sheet, program)
    thinner = program
    step = len(program) - 1
    while step >= 0:
        fewer = thinner - step
        if stay_alike(sheet, (score, score_of(sheet, fewer))):
            thinner = fewer
            step = len(thinner)
        step = step - 1
    return thinner


def check_mark(sheet, mark):
    """UnknownName if the sheet does not have this mark."""
    if mark not in sheet.marks:
        raise UnknownName(mark)


def hangs(sheet, program, mark, *, further=False):
    """The least two recordings that differ in this mark alone and have unlike outcomes; None if there are none."""
    score = score_of(sheet, program)
    check_mark(sheet, mark)
    spot, twin = score.spots[mark], len(sheet.bounds)
    bounds = narrowed(with_twin(sheet.bounds, spot), [(spot, twin, -1)])
    if bounds is None:
        return None
    scores = (score, Score(program, {**score.spots, mark: twin}))
    found = least_where(
        scores, bounds, lambda clock, one, two: not are_alike(clock, one, two, further),
        lambda part: twin_order(part, spot))
    return None if found is None else found[1]


def told(sheet, program, mark):
    """The least two recordings with the same sound and another number of the mark; None if there are none."""
    score = score_of(sheet, program)
    check_mark(sheet, mark)
    return least_untold(score, sheet.bounds, score.spots[mark])


def sounding(sheet, program, tracks):
    """The recordings with this sound."""
    score = score_of(sheet, program)
    rows = given_rows(program.tracks, tracks, number_place)
    if rows is None:
        return family_with(sheet, [])
    branches = played_tree((score,), sheet.bounds, lambda clock, outcome: are_given(clock, outcome, rows))
    return family_with(sheet, parted(branches)[0])
