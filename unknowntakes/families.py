"""Families: sets of recordings, those of any of several sheets."""

from unknowntakes.bounds import hull_bounds
from unknowntakes.covers import common_pieces, is_covered, is_within_one, slim, without_blocks
from unknowntakes.errors import BadNumbers, UnknownName
from unknowntakes.nearest import distance_to, least_near
from unknowntakes.sheets import check_alike, sheet_made, sheet_of, tight_facts


def check_together(first, second):
    """UnlikeMarks if two families have parts, with unlike marks or takes."""
    if first.parts and second.parts:
        check_alike(first.parts[0], second.parts[0])


def are_together(first, second):
    """True if two families may have recordings in common, by their marks and takes."""
    if not first.parts or not second.parts:
        return True
    one, two = first.parts[0], second.parts[0]
    return one.marks == two.marks and one.takes == two.takes


def pieces_of(family):
    """The bounds of the parts."""
    return [part.bounds for part in family.parts]


def blocks_of(family):
    """The limits of each part."""
    return [part.limits for part in family.parts]


def family_of(family, other, pieces):
    """The family of the pieces, with the marks and takes of this family, which has parts.

    Parts of either family that are pieces themselves need not be worked out again.
    """
    model = family.parts[0]
    sheets = []
    for piece in pieces:
        known = [part for part in (*family.parts, *other.parts) if part.bounds == piece]
        sheets.append(known[0] if known else sheet_of(model.marks, model.takes, piece))
    return Family(*sheets)


def has_all(family, other):
    """True if each recording of the other family is one of this one."""
    wide = pieces_of(family)
    for piece in pieces_of(other):
        if not is_within_one(piece, wide) and not is_covered(piece, blocks_of(family)):
            return False
    return True


def hull_of(pieces):
    """The least bounds that have the recordings of all pieces."""
    hull = pieces[0]
    for piece in pieces[1:]:
        hull = hull_bounds(hull, piece)
    return hull


def by_size(recordings):
    """The least of recordings: by the sum, then as tuples."""
    least = min([(sum(recording), recording) for recording in recordings])
    return least[1]


def loose_spots(marks, fixed):
    """1 for each mark that may give way, 0 for "zero" and each fixed one."""
    for name in fixed:
        if name not in marks:
            raise UnknownName(name)
    return (0, *[0 if mark in fixed else 1 for mark in marks])


class Family:
    """The recordings of any of its parts, which are sheets."""

    def __init__(self, *sheets):
        for sheet in sheets[1:]:
            check_alike(sheets[0], sheet)
        self.parts = sheets

    def __bool__(self):
        return bool(self.parts)

    def __contains__(self, numbers):
        return any([numbers in part for part in self.parts])

    @property
    def least(self):
        """The least recording, None if there is none."""
        if not self.parts:
            return None
        return by_size([part.least for part in self.parts])

    @property
    def hull(self):
        """The least sheet that has all recordings, None if there is none."""
        if not self.parts:
            return None
        model, bounds = self.parts[0], hull_of(pieces_of(self))
        facts = tight_facts(model.marks, bounds)
        return sheet_made(model.marks, model.takes, tuple(facts), bounds)

    def near(self, numbers, *, fixed=()):
        """(distance, the least recording at it): how near the recordings come to the numbers."""
        if not self.parts:
            return None
        marks = self.parts[0].marks
        if len(numbers) != len(marks):
            raise BadNumbers()
        clock = (0, *numbers)
        loose = loose_spots(marks, fixed)
        reached = [(piece, distance_to(piece, clock, loose)) for piece in pieces_of(self)]
        distances = [distance for _, distance in reached if distance is not None]
        if not distances:
            return None
        nearest = min(distances)
        closest = [piece for piece, distance in reached if distance == nearest]
        return nearest, by_size([least_near(piece, clock, loose, nearest) for piece in closest])

    def __or__(self, other):
        check_together(self, other)
        if not self.parts or not other.parts:
            return self if self.parts else other
        return family_of(self, other, slim([*pieces_of(self), *pieces_of(other)]))

    def __and__(self, other):
        check_together(self, other)
        if not self.parts or not other.parts:
            return Family()
        return family_of(self, other, common_pieces(pieces_of(self), blocks_of(other)))

    def __sub__(self, other):
        check_together(self, other)
        if not self.parts or not other.parts:
            return self
        return family_of(self, other, without_blocks(pieces_of(self), blocks_of(other)))

    def within(self, other):
        """True if each recording is in the other family."""
        check_together(self, other)
        return has_all(other, self)

    def __eq__(self, other):
        return (isinstance(other, Family) and are_together(self, other)
                and has_all(self, other) and has_all(other, self))

    def __ne__(self, other):
        return not self == other
