"""Faults: their forms, and whether outcomes have them."""

from unknowntakes.asking import is_place_of
from unknowntakes.clocks import ZERO
from unknowntakes.errors import BadFault
from unknowntakes.kinds import is_whole
from unknowntakes.pieces import has_many, is_in, piece_of, runs_of, with_high, with_low, without_pins
from unknowntakes.steps import row_on

# What the parts behind the word of a fault are; ("wrong",) stands for all steps.
FAULTS = {
    "wrong": ("step",),
    "declined": (),
    "twice": ("take", "place", "place"),
    "missing": ("take", "place", "place"),
    "heard": ("take", "place", "place"),
    "disorder": ("track", "take"),
    "blip": ("least",),
}


def is_fault_part(sheet, program, sort, part):
    """True if a part of a fault is of this sort, and there."""
    if sort == "take":
        return part in sheet.takes
    if sort == "track":
        return part in program.tracks
    if sort == "place":
        return is_place_of(sheet, part)
    if sort == "step":
        return is_whole(part) and 0 <= part < len(program.steps)
    return is_whole(part) and part >= 1


def is_fault(sheet, program, fault):
    """True if the tuple is a fault that the program can have at recordings of the sheet."""
    if not isinstance(fault, tuple) or not fault or not isinstance(fault[0], str) or fault[0] not in FAULTS:
        return False
    sorts = FAULTS[fault[0]]
    if len(fault) != len(sorts) + 1:
        return fault == ("wrong",)
    return all([is_fault_part(sheet, program, sort, part) for sort, part in zip(sorts, fault[1:])])


def check_faults(sheet, program, faults):
    """BadFault for the first fault that is none, or if there is none at all."""
    if not faults:
        raise BadFault(0)
    for at, fault in enumerate(faults):
        if not is_fault(sheet, program, fault):
            raise BadFault(at)


def faults_on(faults, spots):
    """The faults with spot places for their places."""
    return [row_on(fault, FAULTS[fault[0]], spots) for fault in faults]


def pieces_of_take(bounds, rows, take):
    """The pieces of a take on all tracks, what only pins kept apart in one piece."""
    return [item for row in rows for item in without_pins(bounds, row) if item[0] == take]


def common_piece(bounds, one, two):
    """The moments of two pieces of a take that are in both, as a piece in a tuple; () if it is known to be empty."""
    lows, highs = one[1], one[2]
    for low in two[1]:
        lows = with_low(bounds, lows, low)
    for high in two[2]:
        highs = with_high(bounds, highs, high)
    return piece_of(bounds, one[0], lows, highs)


def in_range(clock, score, rows, fault):
    """The parts in range of all pieces of a take that a fault (word, take, P, Q) is about."""
    _, take, start, end = fault
    whole = (take, (start, ZERO), (end, (score.spots[take], 0)))
    found = []
    for piece in pieces_of_take(clock.bounds, rows, take):
        found.extend(common_piece(clock.bounds, whole, piece))
    return found


def is_twice(clock, score, rows, fault):
    """True if a moment in range is heard more than once."""
    pieces = in_range(clock, score, rows, fault)
    for at, piece in enumerate(pieces):
        for other in pieces[:at]:
            for common in common_piece(clock.bounds, piece, other):
                if has_many(clock, common, 1):
                    return True
    return False


def is_missing(clock, score, rows, fault):
    """True if a moment in range is heard nowhere."""
    _, take, start, end = fault
    pieces = pieces_of_take(clock.bounds, rows, take)
    place = clock.greatest_of((start, ZERO))
    goal = clock.least_of((end, (score.spots[take], 0)))
    while clock.is_less(place, goal):
        around = first_around(clock, pieces, place)
        if around is None:
            return True
        place = clock.least_of(around[2])
    return False


def first_around(clock, pieces, place):
    """The first of the pieces that has this moment, None if there is none."""
    for piece in pieces:
        if is_in(clock, piece, place):
            return piece
    return None


def is_heard_in_range(clock, score, rows, fault):
    """True if a moment in range is heard."""
    for piece in in_range(clock, score, rows, fault):
        if has_many(clock, piece, 1):
            return True
    return False


def is_disordered(clock, score, rows, fault):
    """True if a moment stands behind one of the same take that is not less."""
    _, track, take = fault
    here = [row for name, row in zip(score.tracks, rows) if name == track]
    pieces = pieces_of_take(clock.bounds, here, take)
    for at, piece in enumerate(pieces):
        for ahead in pieces[:at]:
            # The first moment of the piece is not above the last one of the piece ahead.
            across = (take, piece[1], ahead[2])
            if has_many(clock, across, 1) and has_many(clock, ahead, 1) and has_many(clock, piece, 1):
                return True
    return False


def is_blip(clock, score, rows, fault):
    """True if a run of a take has fewer moments than it should."""
    for row in rows:
        for run in runs_of(clock, row):
            if run[0] != "" and not has_many(clock, run, fault[1]):
                return True
    return False


SOUND_FAULTS = {"twice": is_twice, "missing": is_missing, "heard": is_heard_in_range, "disorder": is_disordered,
                "blip": is_blip}


def has_fault(clock, score, outcome, fault):
    """True if the outcome has this fault."""
    if fault[0] == "wrong" or fault[0] == "declined":
        return outcome[:len(fault)] == fault
    if outcome[0] != "sound":
        return False
    looked = SOUND_FAULTS[fault[0]]
    return looked(clock, score, outcome[1], fault)


def is_bad(clock, score, outcome, faults):
    """True if the outcome has one of the faults."""
    for fault in faults:
        if has_fault(clock, score, outcome, fault):
            return True
    return False
