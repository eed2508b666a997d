"""What would make an answer sure: facts, amounts, and marks to measure."""

from unknowntakes.amounts import freed_score, left_between, ranges_where
from unknowntakes.asking import check_names, score_of
from unknowntakes.bounds import least_numbers, least_order, narrowed, with_free_spot
from unknowntakes.covers import is_apart
from unknowntakes.errors import BadFact, NotSure, UnknownName
from unknowntakes.families import by_size, pieces_of
from unknowntakes.faults import check_faults, faults_on, is_bad
from unknowntakes.kinds import is_name, is_whole
from unknowntakes.plays import is_anywhere, least_where
from unknowntakes.programs import Program, place_of_step
from unknowntakes.sharing import are_apart_at, least_sharing
from unknowntakes.sheets import names_of, spots_of


def marks_of(finding):
    """The marks of the sheets of a finding."""
    parts = finding.bad.parts if finding.bad else finding.good.parts
    return parts[0].marks


def least_recording(pieces):
    """The least recording of bounds, None if there are none."""
    return by_size([least_numbers(piece) for piece in pieces]) if pieces else None


def kept_pieces(pieces, limits):
    """What is left of the pieces with these limits."""
    left = [narrowed(piece, limits) for piece in pieces]
    return [piece for piece in left if piece is not None]


def loosest(finding, x, y):
    """The loosest fact that x - y is at least some number with which no recording is bad."""
    spots = spots_of(marks_of(finding))
    if x not in spots:
        raise UnknownName(x)
    if y not in spots or x == y:
        raise UnknownName(y)
    bad, good = pieces_of(finding.bad), pieces_of(finding.good)
    if not bad:
        return ("sure",)
    one, two = spots[x], spots[y]
    most = [piece[one][two] for piece in bad]
    if None in most:
        return ("none",)
    number = max(most) + 1
    return ("fact", number, least_recording(kept_pieces(bad, [(two, one, 1 - number)])),
            least_recording(kept_pieces(good, [(two, one, -number)])))


def needed(sheet, program, *faults):
    """The facts of a sheet that are left when those go out, the last one first, without which all stays sure."""
    score = score_of(sheet, program)
    check_faults(sheet, program, faults)
    rows = faults_on(faults, score.spots)

    def finish(clock, outcome):
        return is_bad(clock, score, outcome, rows)

    found = least_where((score,), sheet.bounds, finish, least_order)
    if found is not None:
        raise NotSure(found[1])
    left = sheet
    for at in range(len(sheet.facts) - 1, -1, -1):
        fewer = left.without(at)
        if fewer.bounds == left.bounds or not is_anywhere((score,), fewer.bounds, finish):
            left = fewer
    return list(left.facts)


def keep_out(facts, spots, bad):
    """True if no recording of the bad pieces keeps all these facts."""
    limits = [(spots[x], spots[y], number) for x, y, number in facts]
    for piece in bad:
        if not is_apart(piece, limits):
            return False
    return True


def facts_needed(facts, spots, bad):
    """The facts that are left when those go out, the last one first, without which no bad piece comes in."""
    left = list(facts)
    for at in range(len(facts) - 1, -1, -1):
        fewer = left[:at] + left[at + 1:]
        if keep_out(fewer, spots, bad):
            left = fewer
    return left


def least_as_far(good, x, y, number):
    """The least recording of the good pieces at which x - y is at least this number."""
    best = None
    for piece in good:
        if best is None or least_order(piece) < best:
            far = narrowed(piece, [(y, x, -number)])
            if far is not None and (best is None or least_order(far) < best):
                best = least_order(far)
    return best[1]


def witnesses(marks, good, recording):
    """(x, y, the least good recording at which x - y is not less than at this one) for all x and y."""
    names, clock = names_of(marks), (0, *recording)
    rows = []
    for one, x in enumerate(names):
        for two, y in enumerate(names):
            if one != two:
                rows.append((x, y, least_as_far(good, one, two, clock[one] - clock[two])))
    return rows


def gentle(finding):
    """The facts that all good recordings keep and no bad one does, or a bad one that keeps all such facts."""
    if not finding.good:
        return ("nothing",)
    hull = finding.good.hull
    bad = pieces_of(finding.bad)
    inside = kept_pieces(bad, hull.limits)
    if inside:
        recording = least_recording(inside)
        return ("inside", recording, witnesses(hull.marks, pieces_of(finding.good), recording))
    return ("facts", facts_needed(hull.facts, spots_of(hull.marks), bad))


def is_any_fact(fact):
    """True for a fact about any names."""
    if not isinstance(fact, tuple) or len(fact) != 3:
        return False
    x, y, number = fact
    return is_name(x) and is_name(y) and x != y and is_whole(number)


def with_asks(program, facts):
    """The program with an ask for each fact ahead of its edits."""
    for at, fact in enumerate(facts):
        if not is_any_fact(fact):
            raise BadFact(at)
    asks = [("ask", (x, 0), (y, number)) for x, y, number in facts]
    return Program(program.tracks, *asks, *program.edits)


def safe_amounts(sheet, program, step, which, *faults):
    """The ranges of amounts of a place of this step with which no recording has one of the faults."""
    check_names(sheet, program)
    mark, _ = place_of_step(program, step, which)
    check_faults(sheet, program, faults)
    spots, spot = spots_of(sheet.marks), len(sheet.bounds)
    score = freed_score(program, spots, step, which, spot)
    rows = faults_on(faults, spots)
    ranges = ranges_where(
        (score,), with_free_spot(sheet.bounds), lambda clock, outcome: is_bad(clock, score, outcome, rows),
        spot, spots[mark])
    return left_between(ranges)


def settles(finding, *marks):
    """The least bad and good recordings with the same numbers at these marks; None if there are none."""
    spots = spots_of(marks_of(finding))
    for mark in marks:
        if mark == "zero" or mark not in spots:
            raise UnknownName(mark)
    return least_sharing(pieces_of(finding.bad), pieces_of(finding.good), [spots[mark] for mark in marks])


def choices(many, among):
    """All ways to choose so many numbers from 1 up to among, ascending."""
    found = [()]
    for _ in range(many):
        found = [(*way, more) for way in found for more in range(way[-1] + 1 if way else 1, among + 1)]
    return found


def fewest(finding):
    """The fewest marks that settle whether a recording is bad, the first ones of several."""
    marks = marks_of(finding)
    bad, good = pieces_of(finding.bad), pieces_of(finding.good)
    for many in range(len(marks)):
        for spots in choices(many, len(marks)):
            if are_apart_at(bad, good, spots):
                return tuple([marks[spot - 1] for spot in spots])
    # No recording is both bad and good.
    return marks
