"""The steps of a program, done on rows (see pieces) at all recordings of a clock.

Each edit has a function that returns (end, rows): end is the kind of wrong, or "declined",
or None if the run goes on with the rows.
"""

from unknowntakes.clocks import ZERO, shifted
from unknowntakes.edits import FORMS, TESTS
from unknowntakes.pieces import (
    hush_of, is_in, many_of, piece_of, pin_of, split_ahead, split_behind, with_high, with_low)
from unknowntakes.pins import between, put_in, spot_behind, spot_of_pin, taken_out, with_row


def place_on(spots, place):
    """A place as a spot place."""
    return (spots[place[0]], place[1])


def row_on(row, sorts, spots):
    """The row of a word and its parts, of these sorts, with spot places for its places."""
    parts = [place_on(spots, part) if sort == "place" else part for sort, part in zip(sorts, row[1:])]
    return (row[0], *parts)


def edit_on(edit, spots):
    """The edit with spot places for its places; an if without its insides."""
    if edit[0] == "if":
        return ("if", row_on(edit[1], TESTS[edit[1][0]], spots))
    return row_on(edit, FORMS[edit[0]], spots)


class Score:
    """What is played: tracks, steps with spot places, their turns (see edits), and the spots of the names."""

    def __init__(self, program, spots):
        self.tracks = program.tracks
        self.spots = spots
        self.steps = [edit_on(edit, spots) for edit in program.steps]
        self.turns = program.turns

    def blank_rows(self):
        """The rows of the tracks when nothing stands on them."""
        return tuple([() for _ in self.tracks])


def do_put(clock, score, rows, edit):
    """The moments of a take go in at a pin."""
    _, pin, take, start, end = edit
    spot = spot_of_pin(score.tracks, rows, pin)
    if spot is None:
        return "unset", rows
    if not clock.is_most(ZERO, start):
        return "early", rows
    if not clock.is_most(end, (score.spots[take], 0)):
        return "late", rows
    if not clock.is_most(start, end):
        return "backwards", rows
    return None, put_in(rows, spot, piece_of(clock.bounds, take, (start,), (end,)))


def do_hush(clock, score, rows, edit):
    """Hush goes in at a pin."""
    spot = spot_of_pin(score.tracks, rows, edit[1])
    if spot is None:
        return "unset", rows
    return None, put_in(rows, spot, hush_of(edit[2]))


def dropped(bounds, item, start, end):
    """What is left of a piece without the moments from start up to before end."""
    take, lows, highs = item
    return (*piece_of(bounds, take, lows, with_high(bounds, highs, start)),
            *piece_of(bounds, take, with_low(bounds, lows, end), highs))


def do_drop(clock, score, rows, edit):
    """The moments of a take from one place up to before another one go out."""
    _, take, start, end = edit
    if not clock.is_most(start, end):
        return "backwards", rows
    left = []
    for row in rows:
        items = []
        for item in row:
            items.extend(dropped(clock.bounds, item, start, end) if item[0] == take else (item,))
        left.append(tuple(items))
    return None, tuple(left)


def do_only(clock, score, rows, edit):
    """All other moments of a take go out."""
    _, take, start, end = edit
    if not clock.is_most(start, end):
        return "backwards", rows
    bounds = clock.bounds
    left = []
    for row in rows:
        items = []
        for item in row:
            if item[0] == take:
                lows, highs = with_low(bounds, item[1], start), with_high(bounds, item[2], end)
                items.extend(piece_of(bounds, take, lows, highs))
            else:
                items.append(item)
        left.append(tuple(items))
    return None, tuple(left)


def split_at(clock, item, place, pin):
    """A piece with the pin in it ahead of the moment of this number, or behind the one before."""
    take, lows, highs = item
    return (*piece_of(clock.bounds, take, lows, with_high(clock.bounds, highs, place)), pin,
            *piece_of(clock.bounds, take, with_low(clock.bounds, lows, place), highs))


def do_pin(clock, score, rows, edit):
    """A pin is set beside a moment."""
    _, name, side, take, place = edit
    found = []
    for track, row in enumerate(rows):
        for at, item in enumerate(row):
            if item[0] == take and is_in(clock, item, place):
                if found:
                    return "twofold", rows
                found.append((track, at))
    if not found:
        return "lost", rows
    pin = pin_of(name)
    cut_at = place if side == "ahead" else shifted(place, 1)
    left = []
    for track, row in enumerate(rows):
        items = []
        for at, item in enumerate(row):
            if (track, at) == found[0]:
                items.extend(split_at(clock, item, cut_at, pin))
            elif item != pin:
                items.append(item)
        left.append(tuple(items))
    return None, tuple(left)


def nudged_on(clock, items, many, pin):
    """The items behind a pin with the pin directly behind so many moments; None if there are fewer."""
    left = many
    for at, item in enumerate(items):
        if item[0] is not None:
            there = many_of(clock, item, left)
            if there == left:
                first, second = split_behind(clock, item, left)
                return (*items[:at], *first, pin, *second, *items[at + 1:])
            left = left - there
    return None


def nudged_back(clock, items, many, pin):
    """The items ahead of a pin with the pin directly ahead of the last so many; None if there are fewer."""
    left = many
    for at in range(len(items) - 1, -1, -1):
        item = items[at]
        if item[0] is not None:
            there = many_of(clock, item, left)
            if there == left:
                first, second = split_ahead(clock, item, left)
                return (*items[:at], *first, pin, *second, *items[at + 1:])
            left = left - there
    return None


def do_nudge(clock, score, rows, edit):
    """A pin goes on or back by some moments."""
    _, name, many = edit
    spot = spot_of_pin(score.tracks, rows, name)
    if spot is None:
        return "unset", rows
    if many == 0:
        return None, rows
    track, at = spot
    ahead, behind, pin = rows[track][:at], rows[track][at + 1:], rows[track][at]
    if many > 0:
        behind = nudged_on(clock, behind, many, pin)
    else:
        ahead = nudged_back(clock, ahead, -many, pin)
    if ahead is None or behind is None:
        return "short", rows
    return None, with_row(rows, track, (*ahead, *behind))


def stretch_wrong(spots):
    """The wrong of an edit with a stretch between its first two pins; None if there is none."""
    for spot in spots:
        if spot is None:
            return "unset"
    one, two = spots[0], spots[1]
    if one[0] != two[0]:
        return "apart"
    return "crossed" if two[1] < one[1] else None


def do_cut(clock, score, rows, edit):
    """What stands between two pins goes out, pins stay."""
    spots = [spot_of_pin(score.tracks, rows, pin) for pin in edit[1:]]
    wrong = stretch_wrong(spots)
    if wrong is not None:
        return wrong, rows
    one, two = spots
    pins = [item for item in between(rows, one, two) if item[0] is None]
    return None, put_in(taken_out(rows, one, two), one, pins)


def do_move(clock, score, rows, edit):
    """What stands between two pins, pins too, goes in at a third one."""
    spots = [spot_of_pin(score.tracks, rows, pin) for pin in edit[1:]]
    wrong = stretch_wrong(spots)
    if wrong is not None:
        return wrong, rows
    one, two, goal = spots
    if goal[0] == one[0] and one[1] < goal[1] < two[1]:
        return "inside", rows
    return None, put_in(taken_out(rows, one, two), spot_behind(goal, one, two), between(rows, one, two))


def do_copy(clock, score, rows, edit):
    """The moments and hush between two pins go in once more at a third one."""
    spots = [spot_of_pin(score.tracks, rows, pin) for pin in edit[1:]]
    wrong = stretch_wrong(spots)
    if wrong is not None:
        return wrong, rows
    one, two, goal = spots
    return None, put_in(rows, goal, [item for item in between(rows, one, two) if item[0] is not None])


def do_ask(clock, score, rows, edit):
    """The run ends if the first place is greater."""
    return (None if clock.is_most(edit[1], edit[2]) else "declined"), rows


def is_heard(clock, rows, take, place):
    """True if this moment stands on some track."""
    for row in rows:
        for item in row:
            if item[0] == take and is_in(clock, item, place):
                return True
    return False


def is_long(clock, items, many):
    """True if there are at least so many moments and hush among the items."""
    left = many
    for item in items:
        if item[0] is not None and left > 0:
            left = left - many_of(clock, item, left)
    return left == 0


def tested(clock, score, rows, test):
    """(wrong, holds) of a test."""
    if test[0] == "most":
        return None, clock.is_most(test[1], test[2])
    if test[0] == "heard":
        return None, is_heard(clock, rows, test[1], test[2])
    one = spot_of_pin(score.tracks, rows, test[1])
    two = spot_of_pin(score.tracks, rows, test[2])
    if one is None or two is None:
        return "unset", False
    if one[0] != two[0]:
        return None, False
    first, second = (one, two) if one[1] <= two[1] else (two, one)
    return None, is_long(clock, between(rows, first, second), test[3])


DEEDS = {"put": do_put, "hush": do_hush, "drop": do_drop, "only": do_only, "pin": do_pin, "nudge": do_nudge,
         "cut": do_cut, "move": do_move, "copy": do_copy, "ask": do_ask}


def step_done(clock, score, step, rows):
    """(end, the step that comes next, rows) when this step is done."""
    edit = score.steps[step]
    if edit[0] == "if":
        end, holds = tested(clock, score, rows, edit[1])
        return end, score.turns[step][0 if holds else 1], rows
    deed = DEEDS[edit[0]]
    end, left = deed(clock, score, rows, edit)
    return end, score.turns[step][0], left
