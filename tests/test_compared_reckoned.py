"""[21] to [23]: answers against all recordings played one by one, near 0 and above a great base, and drawn ones."""

import random
import unittest
from collections import Counter

from compared import LARGE, bounded_sheet, full, large_draws, least_hanging, least_untold, outcome, raised, rows_of
from drawn import Draw, recording_of
from unknowntakes.compared import clash, compare, hangs, sounding, telling_edit, thin, told
from unknowntakes.errors import BadStep
from unknowntakes.families import Family
from unknowntakes.playing import standing
from unknowntakes.programs import Program
from unknowntakes.sheets import Sheet

BIG = 10 ** 12
KINDS = [(("m", "A", "n"), ("A",), 3), (("A", "m"), ("A",), 4), (("n", "B", "A"), ("A", "B"), 2), (("A",), ("A",), 6)]


class Case:
    """A sheet with all its recordings, and a draw of programs for it."""

    def __init__(self, rng, turn, base=0):
        marks, takes, self.top = KINDS[turn % len(KINDS)]
        self.rng, self.base = rng, base
        self.sheet = bounded_sheet(rng, marks, takes, self.top, base=base)
        self.rows = rows_of(self.sheet, self.top, base)
        self.flat = Sheet(marks, takes)
        self.draw = Draw(rng, marks, takes, ("one", "two") if turn % 3 == 1 else ("voice",))

    def program(self, many):
        """A program of at most so many steps, drawn near 0 and then raised to the base."""
        hint = tuple(number - self.base for number in self.rng.choice(self.rows))
        return raised(self.draw.program(many, self.flat, hint), self.base)

    def pinned(self):
        """Two programs whose pins stand in other places, or in another order, at some recordings at most."""
        rng, draw = self.rng, self.draw
        track, take = draw.tracks[-1], self.sheet.takes[0]
        place = self.near()
        put = ("put", f"{track}>", take, ("zero", self.base), (take, 0))
        first = Program(draw.tracks, put)
        for pin in ("p", "q", "r")[:rng.randint(1, 3)]:
            spot = place if rng.random() < 0.6 else self.near()
            first = first + ("pin", pin, rng.choice(("ahead", "behind")), take, spot)
        turn = rng.choice((1, -1))
        more = [("nudge", "p", turn), ("nudge", "p", -turn)][:rng.randint(1, 2)]
        more = rng.choice((more, more, [("move", "p", "q", f"<{track}")], [("pin", "r", "ahead", take, self.near())],
                           [("nudge", "p", 0)]))
        second = rng.choice((Program(first.tracks, *first.edits, *more), first.swapped(len(first) - 2),
                             first - (len(first) - 1)))
        return rng.choice(((first, second), (second, first)))

    def act(self):
        """An edit for a base in which p most often stands."""
        rng, track, take = self.rng, self.draw.tracks[-1], self.sheet.takes[0]
        pin = rng.choice(("p", "p", f"{track}>", f"<{track}"))
        return rng.choice((
            ("hush", pin, rng.randint(0, 2)), ("pin", rng.choice("pq"), "ahead", take, self.near()),
            ("nudge", "p", rng.choice((-1, 1))), ("cut", f"<{track}", "p"), ("cut", "p", f"{track}>"),
            ("move", "p", f"{track}>", f"<{track}"), ("drop", take, ("zero", self.base), self.near()),
            ("put", pin, take, ("zero", self.base), ("zero", self.base + 1))))

    def near(self):
        """A place that is some moment of the take at many recordings."""
        mark = self.rng.choice(("zero", *self.sheet.marks))
        return (mark, self.base + self.rng.randint(0, 1)) if mark == "zero" else (mark, self.rng.randint(-2, 0))

    def bent(self, program):
        """A program that is much like this one."""
        rng, other = self.rng, program
        for _ in range(rng.randint(1, 2)):
            try:
                step = rng.randrange(len(other) + 1)
                kind = rng.randrange(5)
                if kind == 0:
                    other = other.swapped(step)
                elif kind == 1:
                    other = other - step
                elif kind == 2 and step < len(other) and other[step][0] in ("put", "drop", "only", "ask"):
                    which = rng.randint(1, 2)
                    place = [part for part in other[step] if isinstance(part, tuple)][which - 1]
                    other = other.with_amount(step, which, place[1] + rng.choice((-1, 1)))
                elif kind == 3:
                    pin = rng.choice(("p", "q", "r"))
                    other = other + ("nudge", pin, 1) + ("nudge", pin, -1)
                elif len(other) < 6:
                    other = other + raised(Program(program.tracks, self.draw.edit(rng.choice(self.draw.words), 2)),
                                           self.base).edits[0]
            except BadStep:
                pass
        return other


def cases(seed, turns):
    """Cases near 0, and each fourth one above a great base."""
    rng = random.Random(seed)
    for turn in range(turns):
        yield rng, Case(rng, turn, BIG if rng.random() < 0.25 else 0)


class Small(unittest.TestCase):
    def told(self, case, *programs):
        return (case.sheet.marks, case.sheet.facts, [program.edits for program in programs])

    def check(self, case, finding, first, second, look):
        bad = [row for row in case.rows if look(case.sheet, first, row) != look(case.sheet, second, row)]
        good = [row for row in case.rows if row not in bad]
        words = self.told(case, first, second)
        self.assertEqual([row for row in case.rows if row in finding.bad], bad, words)
        self.assertEqual([row for row in case.rows if row in finding.good], good, words)
        self.assertEqual((finding.least_bad, finding.least_good), (bad[0] if bad else None, good[0] if good else None))
        self.assertEqual(finding.state, "open" if bad and good else "never" if bad else "sure")
        return finding.state

    def test_compare(self):
        seen = Counter()
        for rng, case in cases(101, 400):
            first = case.program(rng.randint(1, 5))
            second = case.bent(first) if rng.random() < 0.8 else case.program(rng.randint(1, 5))
            if rng.random() < 0.3:
                first, second = case.pinned()
            plain = self.check(case, compare(case.sheet, first, second), first, second, outcome)
            further = self.check(case, compare(case.sheet, first, second, further=True), first, second, full)
            seen[plain, further] += 1
        self.assertGreater(min(seen["sure", "sure"], seen["open", "open"], seen["never", "never"],
                               seen["sure", "open"] + seen["sure", "never"]), 10, seen)

    def test_telling_edit(self):
        seen = Counter()
        for rng, case in cases(102, 300):
            first = case.program(rng.randint(2, 5))
            second = case.bent(first)
            if rng.random() < 0.5:
                first, second = case.pinned()
            for row in rng.sample(case.rows, min(12, len(case.rows))):
                edit = telling_edit(case.sheet, first, second, row)
                words = (*self.told(case, first, second), row, edit)
                one, two = outcome(case.sheet, first, row), outcome(case.sheet, second, row)
                if edit == ():
                    self.assertNotEqual(one, two, words)
                    seen["already"] += 1
                elif edit is None:
                    self.assertEqual(full(case.sheet, first, row), full(case.sheet, second, row), words)
                    seen["alike", one[0]] += 1
                    self.check_alike(case, first, second, row)
                else:
                    self.assertEqual(one, two, words)
                    self.assertIn(edit[0], ("hush", "cut"))
                    self.assertNotEqual(outcome(case.sheet, first + edit, row), outcome(case.sheet, second + edit, row),
                                        words)
                    seen[edit[0]] += 1
        self.assertGreater(min(seen["already"], seen["alike", "sound"], seen["hush"], seen["cut"]), 20, seen)
        self.assertGreater(min(seen["alike", "wrong"], seen["alike", "declined"]), 2, seen)

    def check_alike(self, case, first, second, row):
        """No further edits show anything."""
        for _ in range(3):
            for _ in range(case.rng.randint(1, 2)):
                edit = raised(Program(first.tracks, case.draw.edit(case.rng.choice(case.draw.words), 2)), case.base)
                first, second = first + edit.edits[0], second + edit.edits[0]
            self.assertEqual(outcome(case.sheet, first, row), outcome(case.sheet, second, row))

    def test_clash(self):
        seen = Counter()
        for rng, case in cases(103, 200):
            base = case.pinned()[0]
            first, second = [tuple(case.act() for _ in range(rng.randint(0, 2))) for _ in range(2)]
            one = Program(base.tracks, *base.edits, *first, *second)
            two = Program(base.tracks, *base.edits, *second, *first)
            seen[self.check(case, clash(case.sheet, base, first, second), one, two, full)] += 1
        self.assertGreater(min(seen["sure"], seen["open"]), 20, seen)

    def test_thin(self):
        seen = Counter()
        for rng, case in cases(104, 250):
            program = case.program(rng.randint(2, 5))
            if rng.random() < 0.7:
                program = case.bent(program)
            wanted = self.thinned(case, program)
            self.assertEqual(thin(case.sheet, program), wanted, self.told(case, program))
            seen[len(program) - len(wanted)] += 1
        self.assertGreater(min(seen[0], seen[1], seen[2]), 10, seen)

    def thinned(self, case, program):
        def stays(other):
            return all(full(case.sheet, program, row) == full(case.sheet, other, row) for row in case.rows)

        left = program
        while True:
            steps = [step for step in range(len(left) - 1, -1, -1) if stays(left - step)]
            if not steps:
                return left
            left = left - steps[0]

    def test_hangs_and_told(self):
        seen = Counter()
        for rng, case in cases(105, 300):
            program = case.program(rng.randint(1, 5))
            for mark in case.sheet.marks:
                for further in (False, True):
                    wanted = least_hanging(case.sheet, program, mark, case.rows, further)
                    self.assertEqual(hangs(case.sheet, program, mark, further=further), wanted,
                                     (self.told(case, program), mark, further))
                    seen["hangs", wanted is None] += 1
                wanted = least_untold(case.sheet, program, mark, case.rows)
                self.assertEqual(told(case.sheet, program, mark), wanted, (self.told(case, program), mark))
                seen["told", wanted is None] += 1
        self.assertGreater(min(seen.values()), 50, seen)

    def test_sounding(self):
        seen = Counter()
        for rng, case in cases(106, 200):
            program = case.program(rng.randint(1, 5))
            sounds = {}
            for row in case.rows:
                here = outcome(case.sheet, program, row)
                if here[0] == "sound":
                    sounds.setdefault(here[1], []).append(row)
            for tracks in rng.sample(sorted(sounds, key=repr), min(4, len(sounds))):
                family = sounding(case.sheet, program, tracks)
                self.assertEqual([row for row in case.rows if row in family], sounds[tracks], self.told(case, program))
                self.assertTrue(family.within(Family(case.sheet)))
                self.assertEqual(family.least, sounds[tracks][0])
                seen[len(sounds[tracks]) > 1] += 1
        self.assertGreater(min(seen.values()), 30, seen)


class Large(unittest.TestCase):
    """Numbers up to 10 ** 12, sheets with and without upper ends: drawn recordings."""

    def outcome(self, sheet, program, row, further):
        here = standing(sheet, program, row) if further else program(sheet, row)
        return here if here[0] == "sound" else here[:1]

    def test_compare(self):
        seen = Counter()
        for rng, draw, sheet, first, second, rows in large_draws(111, 80):
            for further in (False, True):
                finding = compare(sheet, first, second, further=further)
                seen[finding.state] += 1
                for row in [*rows, *[row for row in (finding.least_bad, finding.least_good) if row]]:
                    good = self.outcome(sheet, first, row, further) == self.outcome(sheet, second, row, further)
                    self.assertEqual((row in finding.bad, row in finding.good), (not good, good),
                                     (first.edits, second.edits, sheet.facts, row))
        self.assertGreater(min(seen.values()), 5, seen)

    def test_hangs(self):
        seen = Counter()
        for rng, draw, sheet, first, second, rows in large_draws(112, 80):
            for at, mark in enumerate(LARGE):
                pair = hangs(sheet, first, mark)
                seen[pair is None] += 1
                if pair is not None:
                    one, two = pair
                    self.assertLess(one[at], two[at])
                    self.assertEqual(one[:at] + one[at + 1:], two[:at] + two[at + 1:])
                    self.assertTrue(one in sheet and two in sheet)
                    self.assertNotEqual(self.outcome(sheet, first, one, False), self.outcome(sheet, first, two, False))
                for row in rows:
                    other = self.moved(rng, sheet, row, at)
                    if self.outcome(sheet, first, row, False) != self.outcome(sheet, first, other, False):
                        self.assertLessEqual(sum(pair[0]) + sum(pair[1]), sum(row) + sum(other))
        self.assertGreater(min(seen.values()), 20, seen)

    def moved(self, rng, sheet, row, at):
        """A recording that differs in this mark at most."""
        here = sheet
        for other, mark in enumerate(LARGE):
            if other != at:
                here = here.measured(mark, row[other])
        return recording_of(rng, here, rng.choice((3, BIG)))

    def test_told(self):
        seen = Counter()
        for rng, draw, sheet, first, second, rows in large_draws(113, 80):
            for at, mark in enumerate(LARGE):
                pair = told(sheet, first, mark)
                seen[pair is None] += 1
                if pair is not None:
                    self.assertLess(pair[0][at], pair[1][at])
                    self.assertEqual(first(sheet, pair[0]), first(sheet, pair[1]))
                    self.assertEqual(first(sheet, pair[0])[0], "sound")
                for row in rows:
                    other = self.moved(rng, sheet, row, at)
                    if other != row and first(sheet, row)[0] == "sound" and first(sheet, row) == first(sheet, other):
                        self.assertLessEqual(sum(pair[0]) + sum(pair[1]), sum(row) + sum(other))
        self.assertGreater(min(seen.values()), 20, seen)

    def test_sounding(self):
        many = 0
        for rng, draw, sheet, first, second, rows in large_draws(114, 80):
            for row in rows[:8]:
                here = first(sheet, row)
                if here[0] == "sound":
                    family = sounding(sheet, first, here[1])
                    self.assertIn(row, family)
                    many += 1
                    for other in [family.least, *rows]:
                        self.assertIs(other in family, first(sheet, other) == here)
        self.assertGreater(many, 200)

    def test_thin(self):
        for rng, draw, sheet, first, second, rows in large_draws(115, 60):
            thinner = thin(sheet, first)
            self.assertTrue(compare(sheet, first, thinner, further=True))
            for step in range(len(thinner)):
                self.assertFalse(compare(sheet, first, thinner - step, further=True))


if __name__ == "__main__":
    unittest.main()
