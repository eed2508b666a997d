"""What functions look at first when they are asked about a sheet and programs."""

from unknowntakes.clocks import Clock, point_bounds
from unknowntakes.edits import parts_of
from unknowntakes.errors import BadPlace, NotRecording, UnknownName, UnlikeTracks
from unknowntakes.kinds import is_place
from unknowntakes.sheets import names_of, spots_of
from unknowntakes.steps import Score


def check_names(sheet, program):
    """UnknownName for the first take or mark in reading order that the sheet does not have."""
    for edit in program.steps:
        for sort, part in parts_of(edit):
            if sort == "take" and part not in sheet.takes:
                raise UnknownName(part)
            if sort == "place" and part[0] != "zero" and part[0] not in sheet.marks:
                raise UnknownName(part[0])


def score_of(sheet, program):
    """The program as it is played at recordings of the sheet; UnknownName if it can't be."""
    check_names(sheet, program)
    return Score(program, spots_of(sheet.marks))


def check_tracks_alike(first, second):
    """UnlikeTracks if two programs do not have the same tracks in the same order."""
    if first.tracks != second.tracks:
        raise UnlikeTracks()


def is_place_of(sheet, x):
    """True for a place of the sheet."""
    return is_place(x) and x[0] in names_of(sheet.marks)


def check_places(sheet, places, first):
    """BadPlace, counted from first on, for the first that is no place of the sheet."""
    for at, place in enumerate(places, start=first):
        if not is_place_of(sheet, place):
            raise BadPlace(at)


def clock_at(sheet, numbers):
    """The clock of a recording of the sheet alone; NotRecording if it is none."""
    if numbers not in sheet:
        raise NotRecording()
    return Clock(point_bounds(numbers))
