"""Edits: their forms, and the numbers that their steps have in a program.

A point is a pin that an edit works at: a name, or a fixed pin of the program's tracks.
"""

from unknowntakes.errors import BadEdit
from unknowntakes.kinds import is_name, is_place, is_whole

# What the parts behind the word of an edit, or of a test, are.
FORMS = {
    "put": ("point", "take", "place", "place"),
    "hush": ("point", "many"),
    "drop": ("take", "place", "place"),
    "only": ("take", "place", "place"),
    "pin": ("pin", "side", "take", "place"),
    "nudge": ("pin", "way"),
    "cut": ("point", "point"),
    "move": ("point", "point", "point"),
    "copy": ("point", "point", "point"),
    "ask": ("place", "place"),
    "if": ("test", "edits", "edits"),
}
TESTS = {"most": ("place", "place"), "heard": ("take", "place"), "long": ("point", "point", "few")}

RANGES = {"many": (0, 60), "way": (-3, 3), "few": (0, 2)}
SIDES = ("ahead", "behind")


def is_fixed_pin(x, tracks):
    """True for "<voice" and "voice>" if voice is one of the tracks."""
    return isinstance(x, str) and (
        (x.startswith("<") and x[1:] in tracks) or (x.endswith(">") and x[:-1] in tracks))


def is_part(sort, part, tracks):
    """True if a part is of this sort, as the forms name them."""
    if sort == "place":
        return is_place(part)
    if sort == "take" or sort == "pin":
        return is_name(part)
    if sort == "point":
        return is_name(part) or is_fixed_pin(part, tracks)
    if sort == "side":
        return isinstance(part, str) and part in SIDES
    if sort == "test":
        return is_test(part, tracks)
    if sort == "edits":
        return isinstance(part, tuple)
    low, high = RANGES[sort]
    return is_whole(part) and low <= part <= high


def word_of(row):
    """The word that a row of a word and parts begins with, "" if it is no such row."""
    return row[0] if isinstance(row, tuple) and row and isinstance(row[0], str) else ""


def has_sorts(row, sorts, tracks):
    """True if the parts behind the word of a row are of these sorts; sorts is None for no word."""
    return sorts is not None and len(row) == len(sorts) + 1 and all(
        [is_part(sort, part, tracks) for sort, part in zip(sorts, row[1:])])


def is_test(test, tracks):
    """True if this is a test of a program with these tracks."""
    return has_sorts(test, TESTS.get(word_of(test)), tracks)


def is_edit(edit, tracks):
    """True if this is an edit of a program with these tracks, the insides of an if aside."""
    return has_sorts(edit, FORMS.get(word_of(edit)), tracks)


def parts_of(edit):
    """(sort, part) for each part of an edit in reading order, those of its test too, its insides aside."""
    row, sorts = row_with_places(edit)
    return list(zip(sorts, row[1:]))


def steps_of(edits, tracks):
    """The edits and their insides in reading order; BadEdit for the first that is none."""
    steps = []
    waiting = list(edits[::-1])
    while waiting:
        edit = waiting.pop()
        if not is_edit(edit, tracks):
            raise BadEdit(len(steps))
        steps.append(edit)
        if edit[0] == "if":
            waiting.extend(edit[3][::-1])
            waiting.extend(edit[2][::-1])
    return steps


def size_of(edit):
    """The number of the steps of an edit, its insides too."""
    return 1 + sizes_of(edit[2] + edit[3]) if edit[0] == "if" else 1


def sizes_of(edits):
    """The number of the steps of edits."""
    return sum([size_of(edit) for edit in edits])


def turns_of(edits, first, after):
    """For each step of these edits, numbered from first on, the steps that may come next.

    They are a tuple of two, for a test that holds and for one that does not; after is the
    step that comes behind all these edits.
    """
    turns = []
    step = first
    for at, edit in enumerate(edits):
        behind = step + size_of(edit)
        onward = behind if at + 1 < len(edits) else after
        if edit[0] == "if":
            middle = step + 1 + sizes_of(edit[2])
            turns.append((step + 1 if edit[2] else onward, middle if edit[3] else onward))
            turns.extend(turns_of(edit[2], step + 1, onward))
            turns.extend(turns_of(edit[3], middle, onward))
        else:
            turns.append((onward, onward))
        step = behind
    return turns


def row_of(edits, step):
    """(edits, at): the tuple of edits in which the step stands, and its place there."""
    start = 0
    for at, edit in enumerate(edits):
        if step == start:
            return edits, at
        behind = start + size_of(edit)
        if step < behind:
            middle = start + 1 + sizes_of(edit[2])
            return row_of(edit[2], step - start - 1) if step < middle else row_of(edit[3], step - middle)
        start = behind
    return None


def inside_replaced(edit, step, many, new):
    """An if with other edits inside: see replaced; its insides are counted from 0 on."""
    middle = sizes_of(edit[2])
    if step < middle:
        return ("if", edit[1], replaced(edit[2], step, many, new), edit[3])
    return ("if", edit[1], edit[2], replaced(edit[3], step - middle, many, new))


def replaced(edits, step, many, new):
    """The edits with new ones for so many of one tuple from this step on."""
    start = 0
    for at, edit in enumerate(edits):
        if step == start:
            return (*edits[:at], *new, *edits[at + many:])
        behind = start + size_of(edit)
        if step < behind:
            return (*edits[:at], inside_replaced(edit, step - start - 1, many, new), *edits[at + 1:])
        start = behind
    return edits


def place_at(sorts, which):
    """Where a place stands in a row of a word and parts of these sorts: 1 is the first one.

    None if there are not that many places.
    """
    left = which
    for at, sort in enumerate(sorts, start=1):
        if sort == "place":
            left = left - 1
            if left == 0:
                return at
    return None


def row_with_places(edit):
    """(row, sorts): the word and parts of an edit, those of the test of an if, and what they are."""
    if edit[0] == "if":
        return edit[1], TESTS[edit[1][0]]
    return edit, FORMS[edit[0]]


def place_in_edit(edit, which):
    """The first (1) or second (2) place of an edit, None if it has no such place."""
    row, sorts = row_with_places(edit)
    at = place_at(sorts, which)
    return None if at is None else row[at]


def with_place(edit, which, place):
    """The edit with another place for one that it has, an if with another test."""
    row, sorts = row_with_places(edit)
    at = place_at(sorts, which)
    new = (*row[:at], place, *row[at + 1:])
    return ("if", new, *edit[2:]) if edit[0] == "if" else new
