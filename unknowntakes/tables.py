"""Live tables: a sheet, branches with a program each, and watches, changed by deeds that can be taken back."""

from unknowntakes.asking import score_of
from unknowntakes.bounds import is_tied, least_order
from unknowntakes.compared import compare
from unknowntakes.errors import BadDeed, CouldGoWrong, NothingToUndo, NoWatch
from unknowntakes.plays import least_where
from unknowntakes.programs import Program
from unknowntakes.scenes import (
    Scene, changes, check_branch, with_branch, with_closer_ground, with_draft, with_ground, with_present, with_watch)
from unknowntakes.sheets import Sheet

# How many parts a deed has behind its word.
PARTS = {"take": 1, "mark": 1, "know": 3, "measure": 2, "edit": 1, "start": 1, "go": 1, "watch": 2}


def done(table, deed, scene):
    """The deed is done: the table holds this scene now. The names of the watches whose states change."""
    changed = changes(table._now, scene)
    table._past.append((deed, table._now))
    table._now = scene
    return changed


def copied_to(table, other):
    """The other table, which is new, with what this one holds, and with its story."""
    other._now = table._now
    other._past = list(table._past)
    return other


class Table:
    """A sheet, branches and watches; each deed returns the names of the watches whose states it changes."""

    def __init__(self, *tracks):
        self._now = Scene(Sheet((), ()), {"main": Program(tracks)}, "main", {}, {})
        self._past = []

    @property
    def sheet(self):
        """The present sheet."""
        return self._now.ground

    @property
    def program(self):
        """The present branch's program."""
        return self._now.drafts[self._now.present]

    @property
    def branch(self):
        """The name of the present branch."""
        return self._now.present

    @property
    def branches(self):
        """The names of all branches, in the order in which they were started."""
        return tuple(self._now.drafts)

    def take(self, name):
        """A new take comes behind the marks."""
        ground = self._now.ground
        longer = Sheet((*ground.marks, name), (*ground.takes, name), ground.facts)
        return done(self, ("take", name), with_ground(self._now, longer))

    def mark(self, name):
        """A new mark comes behind the others."""
        ground = self._now.ground
        longer = Sheet((*ground.marks, name), ground.takes, ground.facts)
        return done(self, ("mark", name), with_ground(self._now, longer))

    def know(self, x, y, c):
        """A fact comes behind the others."""
        closer = self._now.ground.with_fact(x, y, c)
        return done(self, ("know", x, y, c), with_closer_ground(self._now, closer))

    def measure(self, mark, number):
        """The facts that the mark is this number come behind the others."""
        closer = self._now.ground.measured(mark, number)
        return done(self, ("measure", mark, number), with_closer_ground(self._now, closer))

    def edit(self, edit):
        """The edit comes behind the present program."""
        return done(self, ("edit", edit), with_draft(self._now, self._now.draft() + edit))

    def start(self, name):
        """A new branch with the present program is the present one."""
        return done(self, ("start", name), with_branch(self._now, name))

    def go(self, name):
        """This branch is the present one."""
        return done(self, ("go", name), with_present(self._now, name))

    def watch(self, name, *faults):
        """From now on the table watches the state of these faults."""
        return done(self, ("watch", name, faults), with_watch(self._now, name, faults))

    def state_of(self, name):
        """The present state of a watch."""
        if name not in self._now.states:
            raise NoWatch(name)
        return self._now.states[name]

    def branch_program(self, name):
        """The program of a branch."""
        check_branch(self._now, name)
        return self._now.drafts[name]

    def differ(self, one, two, *, further=False):
        """At which recordings the programs of two branches have the same outcome."""
        first, second = self.branch_program(one), self.branch_program(two)
        return compare(self._now.ground, first, second, further=further)

    def sound(self):
        """The outcome of the present program if all marks are known; None if they are not."""
        ground, program = self._now.ground, self._now.draft()
        if not all([is_tied(ground.bounds, 0, spot) for spot in range(len(ground.bounds))]):
            return None
        return program(ground, ground.least)

    def story(self):
        """The deeds done."""
        return [deed for deed, _ in self._past]

    def undo(self):
        """The last deed is taken back."""
        if not self._past:
            raise NothingToUndo()
        _, before = self._past.pop()
        changed = changes(self._now, before)
        self._now = before
        return changed

    def twin(self):
        """Another table with the same story, which goes on alone."""
        tracks = self._now.draft().tracks
        return copied_to(self, Table(*tracks))


def check_never_wrong(sheet, program):
    """CouldGoWrong with the least recording at which the program goes wrong."""
    found = least_where(
        (score_of(sheet, program),), sheet.bounds, lambda clock, outcome: outcome[0] == "wrong", least_order)
    if found is not None:
        _, step, kind = program(sheet, found[1])
        raise CouldGoWrong(step, kind, found[1])


class StrictTable(Table):
    """A table no branch of which goes wrong at any recording."""

    def edit(self, edit):
        """The edit comes behind the present program if this can't go wrong then."""
        check_never_wrong(self._now.ground, self._now.draft() + edit)
        return super().edit(edit)

    def twin(self):
        """Another strict table with the same story, which goes on alone."""
        tracks = self._now.draft().tracks
        return copied_to(self, StrictTable(*tracks))


def is_deed(deed):
    """True for a tuple that has the word of a deed and as many parts as it."""
    return (isinstance(deed, tuple) and len(deed) > 0 and isinstance(deed[0], str)
            and PARTS.get(deed[0]) == len(deed) - 1)


def did(table, deed):
    """What the table returns when it does a deed of a story."""
    word, *parts = deed
    if word == "watch":
        name, faults = parts
        return table.watch(name, *faults)
    if word == "start":
        # A range has a start, too; a method of such a name is not handed on.
        return table.start(*parts)
    deeds = {"take": table.take, "mark": table.mark, "know": table.know, "measure": table.measure,
             "edit": table.edit, "go": table.go}
    act = deeds[word]
    return act(*parts)


def all_done(table, story):
    """What the table returns when it does the deeds of a story one by one; BadDeed for the first that is none."""
    told = []
    for at, deed in enumerate(story):
        if not is_deed(deed):
            raise BadDeed(at)
        told.append(did(table, deed))
    return told


def retell(table, story):
    """The table does the deeds of a story."""
    all_done(table, story)


def tried(table, story):
    """What the table would return for the deeds of a story; it stays as it is."""
    return all_done(table.twin(), story)
