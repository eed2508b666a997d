"""[28], [29]: trees that are told, bent ones, and those of other writers, followed at all recordings and at drawn ones."""

import random
import unittest
from collections import Counter

from compared import bounded_sheet, large_draws, raised, rows_of
from drawn import Draw, recording_of
from reckoned import World
from slow import Player
from test_findings_reckoned import KINDS, drawn_fault
from unknowntakes.errors import BadTree
from unknowntakes.findings import ask
from unknowntakes.programs import Program
from unknowntakes.sheets import Sheet
from unknowntakes.trees import follow, is_outcome_tree, is_verdict_tree, outcome_tree, verdict_tree

BIG = 10 ** 12
KIND = [(("m", "A", "n"), ("A",), 3), (("A", "m"), ("A",), 4), (("n", "B", "A"), ("A", "B"), 2), (("A",), ("A",), 6)]


def worth(sheet, row, place):
    return dict(zip(("zero", *sheet.marks), (0, *row)))[place[0]] + place[1]


def said(sheet, row, leaf):
    """The outcome that a leaf of an outcome tree says of a recording; None if it says none."""
    if leaf[0] != "sound":
        return leaf
    try:
        return ("sound", tuple(
            tuple(run if run[0] == "" else (run[0], worth(sheet, row, run[1]), worth(sheet, row, run[2])) for run in runs)
            for runs in leaf[1]))
    except (IndexError, KeyError, TypeError):
        return None


def facts_at(sheet, tree):
    """{number of a leaf: its facts}."""
    facts = {0: list(sheet.facts)}
    for at, row in enumerate(tree):
        if row[0] == "ask":
            _, x, y, c, yes, no = row
            facts[yes] = [*facts[at], (x, y, c)]
            facts[no] = [*facts[at], (y, x, -c - 1)]
    return {at: facts[at] for at, row in enumerate(tree) if row[0] != "ask"}


def is_ring(sheet, facts, ring):
    known = [*facts, *[("zero", mark, 0) for mark in sheet.marks]]
    return (isinstance(ring, tuple) and len(ring) > 0 and all(fact in known for fact in ring)
            and all(one[1] == two[0] for one, two in zip(ring, ring[1:] + ring[:1])) and sum(c for _, _, c in ring) < 0)


def leaf_at(sheet, tree, row):
    """The number of the leaf to which a recording goes."""
    at = 0
    while tree[at][0] == "ask":
        _, x, y, c, yes, no = tree[at]
        at = yes if worth(sheet, row, (x, 0)) - worth(sheet, row, (y, 0)) <= c else no
    return at


def is_right(sheet, tree, rows, says):
    """True if all leaves are right; says(row, leaf) tells whether a leaf is right at a recording."""
    there = {}
    for row in rows:
        there.setdefault(leaf_at(sheet, tree, row), []).append(row)
    for at, facts in facts_at(sheet, tree).items():
        if at in there:
            if not all(says(row, tree[at]) for row in there[at]):
                return False
        elif tree[at][0] != "none" or len(tree[at]) != 2 or not is_ring(sheet, facts, tree[at][1]):
            return False
    return True


def ring_of(sheet, facts):
    """A ring of facts that have no recording, None if they have one."""
    try:
        Sheet(sheet.marks, sheet.takes, facts)
    except ValueError as error:
        return error.ring
    return None


def longer(rng, sheet, tree, copies):
    """The tree with an ask in the place of a leaf, as another writer may put it, needless or not."""
    leaves = [at for at, row in enumerate(tree) if row[0] != "ask"]
    at = rng.choice(leaves)
    x, y = rng.sample(("zero", *sheet.marks), 2)
    c = rng.randint(-3, 3)
    rows = list(tree)
    rows[at] = ("ask", x, y, c, len(rows), len(rows) + 1)
    for fact in ((x, y, c), (y, x, -c - 1)):
        ring = ring_of(sheet, [*facts_at(sheet, tree)[at], fact])
        rows.append(tree[at] if ring is None or copies else ("none", ring))
    return rows


def turned_place(rng, sheet, place):
    """Another place, which may have the same number at some recordings."""
    return rng.choice(((place[0], place[1] + rng.choice((-1, 1))), (rng.choice(("zero", *sheet.marks)), place[1]),
                       (rng.choice(sheet.marks), rng.randint(-1, 1)), ("zero", rng.randint(0, 3))))


def bent_leaf(rng, sheet, leaf):
    """A leaf that says something else, or the same in another way."""
    if leaf[0] == "sound" and rng.random() < 0.7:
        tracks = [list(runs) for runs in leaf[1]]
        spots = [(track, at) for track, runs in enumerate(tracks) for at in range(len(runs))]
        if spots:
            track, at = rng.choice(spots)
            take, start, stop = tracks[track][at]
            if take == "":
                tracks[track][at] = (take, 0, stop + 1)
            else:
                which = rng.random() < 0.5
                tracks[track][at] = (take, turned_place(rng, sheet, start) if which else start,
                                     stop if which else turned_place(rng, sheet, stop))
            return ("sound", tuple(tuple(runs) for runs in tracks))
        return ("sound", (*leaf[1][:-1], (*leaf[1][-1], ("", 0, 1))))
    return rng.choice((("wrong", 0, "late"), ("wrong", 1, "unset"), ("declined", 0), ("declined", 1), ("good",), ("bad",),
                       ("none", ()), ("none", (("zero", sheet.marks[0], 0),)), ("sound", ())))


def bent(rng, sheet, tree):
    """A tree of the same form that may be wrong somewhere."""
    rows = list(tree)
    at = rng.randrange(len(rows))
    if rows[at][0] == "ask":
        _, x, y, c, yes, no = rows[at]
        rows[at] = rng.choice((("ask", x, y, c + rng.choice((-1, 1)), yes, no), ("ask", x, y, c, no, yes),
                               ("ask", *rng.sample(("zero", *sheet.marks), 2), c, yes, no)))
    else:
        rows[at] = bent_leaf(rng, sheet, rows[at])
    return rows


class Small(unittest.TestCase):
    def worlds(self, seed, turns, high=True):
        """(rng, draw, world) near 0 and, if it may be high, each fifth time above a great base."""
        rng = random.Random(seed)
        for turn in range(turns):
            marks, takes, top = KIND[turn % 4]
            base = BIG if high and turn % 5 == 4 else 0
            sheet = bounded_sheet(rng, marks, takes, top, base=base)
            draw = Draw(rng, marks, takes, ("one", "two") if turn % 3 == 1 else ("voice",))
            rows = rows_of(sheet, top, base)
            hint = tuple(number - base for number in rng.choice(rows))
            program = raised(draw.program(rng.randint(1, 5), Sheet(marks, takes), hint), base)
            world = World.__new__(World)
            world.sheet, world.program, world.rows = sheet, program, rows
            world.players = {row: Player(sheet, program, row) for row in rows}
            yield rng, draw, world

    def check_form(self, tree):
        """The tree is one by the words of [28]."""
        named = [row for ask in tree if ask[0] == "ask" for row in ask[4:]]
        self.assertEqual(sorted(named), list(range(1, len(tree))))
        for at, row in enumerate(tree):
            self.assertTrue(row[0] != "ask" or min(row[4:]) > at)

    def test_outcome_trees(self):
        seen = Counter()
        for rng, draw, world in self.worlds(151, 250):
            sheet, program = world.sheet, world.program
            tree = outcome_tree(sheet, program)
            words = (program.edits, sheet.facts, tree)
            self.check_form(tree)
            self.assertTrue(is_outcome_tree(sheet, program, tree), words)

            def says(row, leaf):
                return said(sheet, row, leaf) == world.players[row].outcome()

            self.assertTrue(is_right(sheet, tree, world.rows, says), words)
            for row in world.rows:
                self.assertEqual(follow(sheet, tree, row), tree[leaf_at(sheet, tree, row)])
            for _ in range(12):
                other = tree
                for _ in range(rng.randint(0, 2)):
                    other = longer(rng, sheet, other, rng.random() < 0.2)
                if rng.random() < 0.8:
                    other = bent(rng, sheet, other)
                wanted = is_right(sheet, other, world.rows, says)
                self.assertIs(is_outcome_tree(sheet, program, other), wanted, (program.edits, sheet.facts, other))
                seen[wanted, other == tree] += 1
        self.assertGreater(min(seen[True, False], seen[False, False]), 100, seen)

    def test_verdict_trees(self):
        seen = Counter()
        for rng, draw, world in self.worlds(152, 250, False):
            sheet, program = world.sheet, world.program
            faults = [drawn_fault(rng, draw, program, rng.choice(KINDS)) for _ in range(rng.randint(1, 2))]
            bad = world.bad(faults)
            tree = verdict_tree(sheet, program, *faults)
            words = (program.edits, sheet.facts, faults, tree)
            self.check_form(tree)
            self.assertTrue(is_verdict_tree(sheet, program, tree, *faults), words)

            def says(row, leaf):
                return leaf == (("bad",) if row in bad else ("good",))

            self.assertTrue(is_right(sheet, tree, world.rows, says), words)
            for _ in range(12):
                other = tree
                for _ in range(rng.randint(0, 2)):
                    other = longer(rng, sheet, other, rng.random() < 0.2)
                if rng.random() < 0.7:
                    other = bent(rng, sheet, other)
                wanted = is_right(sheet, other, world.rows, says)
                self.assertIs(is_verdict_tree(sheet, program, other, *faults), wanted,
                              (program.edits, sheet.facts, faults, other))
                seen[wanted, other == tree] += 1
        self.assertGreater(min(seen[True, False], seen[False, False]), 100, seen)

    def test_rings(self):
        """A "none" is right with its ring alone."""
        rng = random.Random(153)
        seen = Counter()
        for turn in range(400):
            marks = ("A", "m", "n")
            sheet = bounded_sheet(rng, marks, ("A",), 3)
            x, y = rng.sample(("zero", *marks), 2)
            if sheet[x, y] is None:
                continue
            facts = [*sheet.facts, (y, x, -sheet[x, y] - 1)]
            ring = ring_of(sheet, facts)
            other = rng.choice((ring, ring[::-1], ring[1:] + ring[:1], ring + ring, ring[:-1], list(ring),
                                (*ring[:-1], (*ring[-1][:2], ring[-1][2] - 1)), ring + (("zero", "m", 0),),
                                tuple(rng.choice(facts) for _ in range(3))))
            tree = [("ask", x, y, sheet[x, y], 1, 2), ("sound", ((),)), ("none", other)]
            program = Program(("voice",))
            wanted = is_ring(sheet, facts, other)
            self.assertIs(is_outcome_tree(sheet, program, tree), wanted, (sheet.facts, tree))
            self.assertIs(is_verdict_tree(sheet, program, [tree[0], ("good",), tree[2]], ("wrong",)), wanted)
            seen[wanted] += 1
        self.assertGreater(min(seen.values()), 50, seen)

    def test_bad_trees(self):
        """BadTree for the first ask, by its number, that is bad, then for the first row that is not named."""
        rng = random.Random(154)
        seen = Counter()
        for rng, draw, world in self.worlds(155, 150):
            sheet, program = world.sheet, world.program
            tree = verdict_tree(sheet, program, ("wrong",))
            for _ in range(2):
                tree = longer(rng, sheet, tree, False)
            for _ in range(8):
                rows = list(tree)
                for _ in range(rng.randint(1, 2)):
                    self.spoil(rng, sheet, rows)
                wanted = self.first_bad(sheet, rows)
                seen[wanted is None] += 1
                for call in (lambda: follow(sheet, rows, world.rows[0]), lambda: is_outcome_tree(sheet, program, rows),
                             lambda: is_verdict_tree(sheet, program, rows, ("declined",))):
                    if wanted is None:
                        call()
                    else:
                        with self.assertRaises(BadTree, msg=rows) as caught:
                            call()
                        self.assertEqual(caught.exception.index, wanted, rows)
        self.assertGreater(min(seen.values()), 20, seen)

    def spoil(self, rng, sheet, rows):
        at = rng.randrange(len(rows))
        parts = list(rows[at])
        kind = rng.randrange(6)
        if kind == 0:
            rows.append(("good",))
        elif kind == 1:
            del rows[at]
        elif kind == 2:
            rows[at] = ("ask", *rng.choice((("m",), (1, 2, 3, 4, 5), ("zero", sheet.marks[0], 0, 1))))
        elif len(parts) == 6 and parts[0] == "ask":
            where = rng.randint(1, 5)
            worth = {1: parts[2], 2: "q", 3: rng.choice((True, 2, "0", None)), 4: rng.randint(-1, len(rows)),
                     5: rng.choice((parts[4], True, at, len(rows) - 1))}[where]
            parts[where] = worth
            rows[at] = tuple(parts)
        else:
            rows[at] = rng.choice(((), ("good", 1), (7, "x"), (["ask"],), ("ask",), (None,)))

    def first_bad(self, sheet, rows):
        named = set()
        for at, row in enumerate(rows):
            if row and row[0] == "ask":
                names = ("zero", *sheet.marks)
                if (len(row) != 6 or row[1] not in names or row[2] not in names or row[1] == row[2]
                        or any(type(part) is not int for part in row[3:])):
                    return at
                for to in row[4:]:
                    if not at < to < len(rows) or to in named:
                        return at
                    named.add(to)
        if not rows:
            return 0
        return next((at for at in range(1, len(rows)) if at not in named), None)


class Large(unittest.TestCase):
    """Numbers up to 10 ** 12, sheets with and without upper ends: drawn recordings."""

    def test_outcome_trees(self):
        many = 0
        for rng, draw, sheet, program, _, rows in large_draws(161, 70):
            tree = outcome_tree(sheet, program)
            self.assertTrue(is_outcome_tree(sheet, program, tree))
            for row in rows:
                self.assertEqual(said(sheet, row, follow(sheet, tree, row)), program(sheet, row))
            for _ in range(5):
                other = bent(rng, sheet, longer(rng, sheet, tree, False))
                if not is_outcome_tree(sheet, program, other):
                    many += 1
                else:
                    for row in rows:
                        self.assertEqual(said(sheet, row, follow(sheet, other, row)), program(sheet, row))
        self.assertGreater(many, 100)

    def test_verdict_trees(self):
        for rng, draw, sheet, program, _, rows in large_draws(162, 70):
            fault = drawn_fault(rng, draw, program, rng.choice(KINDS), 9)
            tree = verdict_tree(sheet, program, fault)
            finding = ask(sheet, program, fault)
            self.assertTrue(is_verdict_tree(sheet, program, tree, fault))
            for row in rows:
                self.assertEqual(follow(sheet, tree, row), ("bad",) if row in finding.bad else ("good",))
            words = {row[0] for row in tree if row[0] != "ask"}
            self.assertEqual(words, {"sure": {"good"}, "never": {"bad"}, "open": {"good", "bad"}}[finding.state])

    def test_places_that_are_equal_at_the_recordings_of_the_leaf_alone(self):
        rng = random.Random(163)
        for _ in range(30):
            base = rng.randint(0, BIG)
            sheet = Sheet(("A", "m", "n"), ("A",), (("m", "n", base), ("n", "A", 0), ("zero", "n", -1)))
            program = Program(("v",), ("put", "v>", "A", ("zero", 0), ("n", 0)))
            one = ("sound", ((("A", ("zero", 0), ("n", 0)),),))
            other = ("sound", ((("A", ("m", -rng.choice((base, base)) - 0), ("m", -base)),),))
            same = ("sound", ((("A", ("zero", 0), ("m", -base)),),))
            tree = [("ask", "n", "m", -base, 1, 2), same, one]
            self.assertTrue(is_outcome_tree(sheet, program, tree))
            self.assertFalse(is_outcome_tree(sheet, program, [tree[0], one, same]))
            self.assertFalse(is_outcome_tree(sheet, program, [tree[0], other, one]))
            for row in [recording_of(rng, sheet, 99) for _ in range(5)]:
                self.assertEqual(said(sheet, row, follow(sheet, tree, row)), program(sheet, row))


if __name__ == "__main__":
    unittest.main()
