"""The texts that programs are written as."""

from unknowntakes.edits import FORMS, TESTS, is_edit
from unknowntakes.errors import BadText
from unknowntakes.kinds import first_bad_name
from unknowntakes.texts import check_lines, list_line, listed, number_of

INDENT = "  "


def place_text(place):
    """A place as text: its mark and amount, with "zero" the amount alone."""
    mark, amount = place
    if mark == "zero":
        return f"{amount}"
    return f"{mark}{amount:+}" if amount else mark


def part_text(sort, part):
    """A part of an edit as text."""
    return place_text(part) if sort == "place" else f"{part}"


def words_of(row, sorts):
    """A word and its parts, of these sorts, as text."""
    return " ".join([row[0], *[part_text(sort, part) for sort, part in zip(sorts, row[1:])]])


def line_of(edit):
    """The line of an edit, its insides aside."""
    if edit[0] == "if":
        test = edit[1]
        return f"if {words_of(test, TESTS[test[0]])}"
    return words_of(edit, FORMS[edit[0]])


def edit_lines(edits, indent):
    """The lines of edits, and of their insides, behind this indent."""
    lines = []
    for edit in edits:
        lines.append(f"{indent}{line_of(edit)}")
        if edit[0] == "if":
            deeper = f"{indent}{INDENT}"
            lines.extend(edit_lines(edit[2], deeper))
            if edit[3]:
                lines.append(f"{indent}else")
                lines.extend(edit_lines(edit[3], deeper))
            lines.append(f"{indent}end")
    return lines


def script_lines(tracks, edits):
    """The lines of a program's text."""
    return [list_line("tracks:", tracks), *edit_lines(edits, "")]


def place_in(word):
    """The place that is written so, perhaps in a way in which none is written."""
    whole = number_of(word)
    if whole is not None:
        return ("zero", whole)
    for sign in ("+", "-"):
        mark, found, digits = word.partition(sign)
        if found:
            amount = number_of(digits)
            return (mark, -amount if sign == "-" and amount is not None else amount)
    return (word, 0)


def part_in(sort, word):
    """The part of this sort that is written so, good or bad."""
    if sort == "place":
        return place_in(word)
    return number_of(word) if sort in ("many", "way", "few") else word


def row_in(words, sorts):
    """The word and the parts of these sorts that are written so, good or bad; None if there are more or fewer."""
    if sorts is None or len(words) != len(sorts) + 1:
        return None
    return (words[0], *[part_in(sort, word) for sort, word in zip(sorts, words[1:])])


def edit_in(line, tracks):
    """The edit of a line, an if without insides; None if no edit is written so."""
    words = line.split(" ")
    if words[0] == "if" and len(words) > 1:
        edit = ("if", row_in(words[1:], TESTS.get(words[1])), (), ())
    else:
        edit = row_in(words, FORMS.get(words[0]))
    # Much may be written in more than one way, but one alone is the way of the text.
    return edit if is_edit(edit, tracks) and line_of(edit) == line else None


class Block:
    """An if whose end is not read yet, or the whole program, which has no test."""

    def __init__(self, test):
        self.test = test
        self.edits = []
        self.others = []
        self.turned = False

    def take_in(self, edit):
        """The edit comes behind those that were read."""
        if self.turned:
            self.others.append(edit)
        else:
            self.edits.append(edit)

    def may_turn(self):
        """True if an else may stand here."""
        return self.test is not None and not self.turned

    def may_end(self):
        """True if an end may stand here: an else has something behind it."""
        return self.test is not None and (not self.turned or len(self.others) > 0)


def read_line(blocks, line, tracks):
    """One more line of a program's text; True if it may stand there."""
    block = blocks[-1]
    depth = len(blocks) - 1
    outer = INDENT * (depth - 1)
    if line == f"{outer}else" and block.may_turn():
        block.turned = True
        return True
    if line == f"{outer}end" and block.may_end():
        blocks.pop()
        blocks[-1].take_in(("if", block.test, tuple(block.edits), tuple(block.others)))
        return True
    indent = INDENT * depth
    edit = edit_in(line[len(indent):], tracks) if line.startswith(indent) else None
    if edit is None:
        return False
    if edit[0] == "if":
        blocks.append(Block(edit[1]))
    else:
        block.take_in(edit)
    return True


def read_script(text):
    """(tracks, edits) of a program's text; BadText for the first line that is bad."""
    *lines, rest = text.split("\n")
    check_lines(lines, 1)
    tracks = listed(lines[0], "tracks:")
    if not tracks or first_bad_name(tracks) is not None:
        raise BadText(1)
    blocks = [Block(None)]
    for number, line in enumerate(lines[1:], start=2):
        if not read_line(blocks, line, tracks):
            raise BadText(number)
    if rest or len(blocks) > 1:
        raise BadText(len(lines) + 1)
    return tracks, tuple(blocks[0].edits)
