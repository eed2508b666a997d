"""Programs: edits of tracks, which never change once they are made."""

from unknowntakes.asking import clock_at, score_of
from unknowntakes.edits import place_in_edit, replaced, row_of, steps_of, turns_of, with_place
from unknowntakes.errors import BadPlace, BadStep, BadTracks
from unknowntakes.kinds import first_bad_name, is_whole
from unknowntakes.plays import play
from unknowntakes.scripts import read_script, script_lines
from unknowntakes.sounds import outcome_at


def check_tracks(tracks):
    """BadTracks for the first track that is no name or there before, or if there is none."""
    at = first_bad_name(tracks) if tracks else 0
    if at is not None:
        raise BadTracks(at)


def check_step(program, step):
    """BadStep if the program does not have this step."""
    if not is_whole(step) or not 0 <= step < len(program.steps):
        raise BadStep(step)


def place_of_step(program, step, which):
    """The first (1) or second (2) place of a step; BadStep, BadPlace if there is none."""
    check_step(program, step)
    place = place_in_edit(program.steps[step], which)
    if place is None:
        raise BadPlace(which)
    return place


class Program:
    """Tracks and edits; steps has the edits with their insides, in the order in which steps are numbered."""

    def __init__(self, tracks, *edits):
        self.tracks = tuple(tracks)
        self.edits = edits
        check_tracks(self.tracks)
        self.steps = tuple(steps_of(edits, self.tracks))
        self.turns = tuple(turns_of(edits, 0, len(self.steps)))

    def __len__(self):
        return len(self.steps)

    def __getitem__(self, at):
        check_step(self, at)
        return self.steps[at]

    def __iter__(self):
        raise TypeError("a program is not iterated over")

    def __add__(self, other):
        return Program(self.tracks, *self.edits, other)

    def __sub__(self, other):
        check_step(self, other)
        edits = replaced(self.edits, other, 1, ())
        return Program(self.tracks, *edits)

    def swapped(self, step):
        """The program with this step and the next one of the same tuple of edits exchanged."""
        check_step(self, step)
        row, at = row_of(self.edits, step)
        if at + 1 == len(row):
            raise BadStep(step)
        edits = replaced(self.edits, step, 2, (row[at + 1], row[at]))
        return Program(self.tracks, *edits)

    def with_amount(self, step, which, amount):
        """The program with another amount in the first (1) or second (2) place of this step."""
        mark, _ = place_of_step(self, step, which)
        edits = replaced(self.edits, step, 1, (with_place(self.steps[step], which, (mark, amount)),))
        return Program(self.tracks, *edits)

    def __call__(self, sheet, numbers):
        score = score_of(sheet, self)
        clock = clock_at(sheet, numbers)
        return outcome_at(clock, play(clock, score))

    def __eq__(self, other):
        return isinstance(other, Program) and self.tracks == other.tracks and self.edits == other.edits

    def __ne__(self, other):
        return not self == other

    def __str__(self):
        return "".join([f"{line}\n" for line in script_lines(self.tracks, self.edits)])

    @staticmethod
    def read(text):
        """The program of such a text."""
        tracks, edits = read_script(text)
        return Program(tracks, *edits)
