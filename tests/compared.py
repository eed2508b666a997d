"""Answers about two programs, or about two recordings, reckoned by the slow player at each recording."""

import random
from collections import defaultdict

from drawn import Draw, recording_of, sheet_of
from oracles import order, recordings
from slow import Player
from unknowntakes.errors import Contradiction
from unknowntakes.programs import Program
from unknowntakes.sheets import Sheet


def bounded_sheet(rng, marks, takes, top, most=4, base=0):
    """A sheet whose marks are from base up to top above it, with some facts more."""
    ends = [(mark, "zero", base + top) for mark in marks] + [("zero", mark, -base) for mark in marks if base]
    sheet = Sheet(marks, takes, tuple(ends))
    for _ in range(rng.randint(0, most)):
        x, y = rng.sample(("zero",) + marks, 2)
        number = rng.randint(-1, 3) + (base if y == "zero" else 0) - (base if x == "zero" else 0)
        try:
            sheet = sheet.with_fact(x, y, number)
        except Contradiction:
            pass
    return sheet


def raised_edit(edit, base):
    """The edit with all its places that are reckoned from "zero" so much greater."""
    if isinstance(edit, tuple) and len(edit) == 2 and edit[0] == "zero" and isinstance(edit[1], int):
        return ("zero", edit[1] + base)
    return tuple(raised_edit(part, base) for part in edit) if isinstance(edit, tuple) else edit


def raised(program, base):
    """The program for recordings whose marks are so much greater."""
    return Program(program.tracks, *[raised_edit(edit, base) for edit in program.edits])


def rows_of(sheet, top, base=0):
    """All recordings of a sheet whose marks are from base up to top above it, the least first."""
    if not base:
        return sorted(recordings(sheet.marks, sheet.facts, top), key=order)
    flat = [(x, y, c - (base if y == "zero" else 0) + (base if x == "zero" else 0)) for x, y, c in sheet.facts]
    rows = recordings(sheet.marks, flat, top)
    return sorted([tuple(number + base for number in row) for row in rows], key=order)


def outcome(sheet, program, row):
    """The outcome as [21] counts it: all wrongs are the same, all declined ones are."""
    player = Player(sheet, program, row)
    return player.ended()[:1] if player.end else player.outcome()


def full(sheet, program, row):
    """The outcome with pins, as further=True counts it."""
    player = Player(sheet, program, row)
    return player.ended()[:1] if player.end else player.standing()


def least_hanging(sheet, program, mark, rows, further):
    """The least two recordings that differ in this mark alone and do not have the same outcome."""
    at = sheet.marks.index(mark)
    alike = defaultdict(list)
    for row in rows:
        alike[row[:at] + row[at + 1:]].append((row, (full if further else outcome)(sheet, program, row)))
    pairs = [(one, two) for group in alike.values() for one, first in group for two, second in group
             if one[at] < two[at] and first != second]
    return least_pair(pairs)


def least_untold(sheet, program, mark, rows):
    """The least two recordings with the same sound and another number of the mark."""
    at = sheet.marks.index(mark)
    alike = defaultdict(list)
    for row in rows:
        told = outcome(sheet, program, row)
        if told[0] == "sound":
            alike[told].append(row)
    return least_pair([(one, two) for group in alike.values() for one in group for two in group if one[at] < two[at]])


LARGE = ("A", "m", "n")


def large_draws(seed, turns):
    """(rng, draw, sheet, two programs, recordings): numbers up to 10 ** 12, sheets with and without upper ends."""
    rng = random.Random(seed)
    for turn in range(turns):
        size = (10 ** 12, 40)[turn % 2]
        sheet = sheet_of(rng, LARGE, ("A",), rng.randint(0, 7), -size // 3, size)
        draw = Draw(rng, LARGE, ("A",), ("one", "two")[:1 + turn % 2], (-size // 5, size // 4))
        first, second = large_program(rng, draw, sheet), large_program(rng, draw, sheet)
        if rng.random() < 0.7 and len(first) > 1:
            second = rng.choice((first - rng.randrange(len(first)), first + ("nudge", "p", 1) + ("nudge", "p", -1)))
        yield rng, draw, sheet, first, second, [recording_of(rng, sheet, 2 * size) for _ in range(25)]


def large_program(rng, draw, sheet):
    """A program of at most four steps that does not go wrong at some recording."""
    program = Program(draw.tracks)
    for _ in range(30):
        longer = program + draw.edit(rng.choice(draw.words), 2)
        if len(longer) <= 4 and longer(sheet, recording_of(rng, sheet, 10 ** 12))[0] == "sound":
            program = longer
    return program


def least_pair(pairs):
    """The least of pairs of recordings, None if there are none."""
    return min(pairs, key=lambda pair: (sum(pair[0]) + sum(pair[1]), pair)) if pairs else None
