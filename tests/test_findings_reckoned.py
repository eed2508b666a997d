"""[14] to [17]: answers against all recordings played one by one, and at large numbers."""

import random
import unittest
from collections import Counter

from drawn import Draw, recording_of, sheet_of
from oracles import order
from reckoned import World, shape_of
from unknowntakes.errors import Contradiction, NoShape
from unknowntakes.families import Family
from unknowntakes.findings import ask, ends, shapes, times
from unknowntakes.programs import Program
from unknowntakes.sheets import Sheet

BIG = 10 ** 12
KINDS = ("wrong", "declined", "twice", "missing", "heard", "disorder", "blip")


def drawn_fault(rng, draw, program, kind, least=4):
    take = rng.choice(draw.takes)
    if kind == "wrong":
        return (kind, rng.randrange(len(program))) if len(program) and rng.random() < 0.4 else (kind,)
    if kind == "declined":
        return (kind,)
    if kind == "disorder":
        return (kind, rng.choice(draw.tracks), take)
    if kind == "blip":
        return (kind, rng.randint(1, least))
    return (kind, take, *draw.span(take))


def small_sheet(rng, marks, takes, top, most=4):
    """A sheet with upper ends and some facts more."""
    sheet = Sheet(marks, takes, tuple((mark, "zero", top) for mark in marks))
    for _ in range(rng.randint(0, most)):
        x, y = rng.sample(("zero",) + marks, 2)
        try:
            sheet = sheet.with_fact(x, y, rng.randint(-1, 3))
        except Contradiction:
            pass
    return sheet


def worlds(seed, turns):
    """(draw, world) for drawn sheets and programs, on one track and on two, with the marks in several orders."""
    rng = random.Random(seed)
    for turn in range(turns):
        marks, takes, top = [(("m", "A", "n"), ("A",), 4), (("A", "m"), ("A",), 5), (("n", "B", "m", "A"), ("A", "B"), 2),
                             (("A", "B", "m"), ("B", "A"), 3)][turn % 4]
        draw = Draw(rng, marks, takes, ("one", "two") if turn % 3 else ("voice",))
        sheet = small_sheet(rng, marks, takes, top)
        hint = recording_of(rng, sheet, top)
        yield rng, draw, World(sheet, draw.program(rng.randint(1, 6), sheet, hint), top)


class Small(unittest.TestCase):
    def check_finding(self, world, faults):
        finding = ask(world.sheet, world.program, *faults)
        bad = world.bad(faults)
        good = [row for row in world.rows if row not in bad]
        told = (world.program.edits, world.sheet.facts, faults)
        self.assertEqual([row for row in world.rows if row in finding.bad], bad, told)
        self.assertEqual([row for row in world.rows if row in finding.good], good, told)
        self.assertEqual(finding.least_bad, bad[0] if bad else None)
        self.assertEqual(finding.least_good, good[0] if good else None)
        self.assertEqual(finding.state, "open" if bad and good else "never" if bad else "sure")
        return finding

    def test_shapes_and_ends(self):
        seen = Counter()
        for rng, draw, world in worlds(61, 240):
            found = world.shapes()
            told = (world.program.edits, world.sheet.facts)
            self.assertEqual(shapes(world.sheet, world.program), found, told)
            for shape, _ in found:
                if shape[0] == "sound":
                    self.assertEqual(ends(world.sheet, world.program, shape), world.ends(shape), told)
                    seen["hush" if any(run.isdigit() for row in shape[1] for run in row) else "moments"] += 1
                else:
                    with self.assertRaises(NoShape):
                        ends(world.sheet, world.program, shape)
        self.assertGreater(min(seen["hush"], seen["moments"]), 30)

    def test_each_kind_of_fault(self):
        seen = Counter()
        for rng, draw, world in worlds(62, 200):
            for kind in KINDS:
                finding = self.check_finding(world, [drawn_fault(rng, draw, world.program, kind)])
                seen[kind, finding.state] += 1
        for kind in KINDS:
            self.assertGreater(seen[kind, "open"], 3, kind)
            self.assertGreater(seen[kind, "sure"], 3, kind)

    def test_several_faults(self):
        for rng, draw, world in worlds(63, 200):
            faults = [drawn_fault(rng, draw, world.program, rng.choice(KINDS)) for _ in range(rng.randint(2, 4))]
            self.check_finding(world, faults)

    def test_families_are_apart_and_together_the_sheet(self):
        for rng, draw, world in worlds(64, 100):
            finding = ask(world.sheet, world.program, drawn_fault(rng, draw, world.program, rng.choice(KINDS)))
            self.assertFalse(finding.bad & finding.good)
            self.assertTrue(finding.bad | finding.good == Family(world.sheet))
            self.assertTrue(Family(world.sheet) - finding.bad == finding.good)

    def test_one_more_fact(self):
        kept = Counter()
        for rng, draw, world in worlds(65, 200):
            faults = [drawn_fault(rng, draw, world.program, kind) for kind in rng.sample(KINDS, 2)]
            first = self.check_finding(world, faults)
            x, y = rng.sample(("zero",) + world.sheet.marks, 2)
            try:
                closer = world.sheet.with_fact(x, y, rng.randint(-1, 2))
            except Contradiction:
                continue
            second = ask(closer, world.program, *faults)
            if first.state != "open":
                self.assertEqual(second.state, first.state)
            self.assertTrue(second.bad.within(first.bad) and second.good.within(first.good))
            kept[first.state] += 1
        self.assertGreater(min(kept["sure"], kept["never"], kept["open"]), 3)

    def test_marks_in_another_order(self):
        for rng, draw, world in worlds(66, 60):
            marks = tuple(rng.sample(world.sheet.marks, len(world.sheet.marks)))
            sheet = Sheet(marks, world.sheet.takes, world.sheet.facts)
            faults = [drawn_fault(rng, draw, world.program, rng.choice(KINDS))]
            first, second = ask(world.sheet, world.program, *faults), ask(sheet, world.program, *faults)
            self.assertEqual(first.state, second.state)
            for row in world.rows:
                turned = tuple(row[world.sheet.marks.index(mark)] for mark in marks)
                self.assertIs(turned in second.bad, row in first.bad)

    def test_times(self):
        seen = Counter()
        for rng, draw, world in worlds(67, 300):
            take = rng.choice(world.sheet.takes)
            P, Q = draw.span(take)
            wanted = world.times(take, P, Q)
            self.assertEqual(times(world.sheet, world.program, take, P, Q), wanted, (world.program.edits, take, P, Q))
            seen["none" if wanted is None else wanted[1][0] - wanted[0][0]] += 1
        self.assertGreater(min(seen["none"], seen[0], seen[1]), 10)


class Large(unittest.TestCase):
    """Sheets with and without upper ends, numbers up to 10 ** 12."""

    MARKS, TAKES = ("A", "m", "B", "n"), ("A", "B")

    def draws(self, seed, turns):
        rng = random.Random(seed)
        for turn in range(turns):
            size = (BIG, 30)[turn % 2]
            sheet = sheet_of(rng, self.MARKS, self.TAKES, rng.randint(0, 9), -size // 3, size)
            draw = Draw(rng, self.MARKS, self.TAKES, ("one", "two")[:1 + turn % 2], (-size // 5, size // 4))
            program = Program(draw.tracks)
            while len(program) < 5:
                # What goes wrong at all recordings, and at some most often, is not added.
                longer = program + draw.edit(rng.choice(draw.words), 1)
                found = dict(shapes(sheet, longer))
                sounds = [shape for shape in found if shape[0] == "sound"]
                if len(longer) <= 5 and sounds and (len(sounds) == len(found) or rng.random() < 0.3):
                    program = longer
                elif rng.random() < 0.05:
                    break
            rows = [recording_of(rng, sheet, 2 * size) for _ in range(25)]
            yield rng, draw, sheet, program, rows

    def test_shapes_and_ends(self):
        many = 0
        for rng, draw, sheet, program, rows in self.draws(71, 60):
            found = dict(shapes(sheet, program))
            self.assertEqual(list(found), sorted(found))
            for shape, row in found.items():
                self.assertEqual(shape_of(program(sheet, row)), shape)
            for row in [*rows, *self.beside(sheet, found.values())]:
                outcome = program(sheet, row)
                shape = shape_of(outcome)
                self.assertLessEqual(order(found[shape]), order(row))
                if shape[0] == "sound":
                    many += 1
                    self.check_ends(ends(sheet, program, shape), outcome[1])
        self.assertGreater(many, 400)

    def beside(self, sheet, rows):
        """Recordings of the sheet that are near to these."""
        steps = [(0, 0, 0, 1), (0, 1, 0, 0), (1, 0, 0, 0), (0, 0, 1, 0), (-1, 0, 0, 0), (0, -1, 0, 0), (0, 0, -1, 0),
                 (0, 0, 0, -1), (1, -1, 0, 0), (-1, 1, 0, 0), (1, 1, 1, 1), (-1, -1, -1, -1)]
        near = [tuple(one + two for one, two in zip(row, step)) for row in rows for step in steps]
        return [row for row in near if row in sheet]

    def check_ends(self, told, tracks):
        self.assertEqual([len(row) for row in told], [len(row) for row in tracks])
        for row, runs in zip(told, tracks):
            for (low, high, least, most), (take, start, stop) in zip(row, runs):
                self.assertTrue(low <= start and (high is None or start <= high))
                self.assertTrue(least <= stop and (most is None or stop <= most))

    def test_ends_come_about(self):
        many = 0
        for rng, draw, sheet, program, rows in self.draws(72, 100):
            sounds = [shape for shape, _ in shapes(sheet, program) if shape[0] == "sound"]
            told = {take: [] for take in self.TAKES}
            for shape in sounds:
                for runs, row in zip(shape[1], ends(sheet, program, shape)):
                    for run, (low, high, least, most) in zip(runs, row):
                        if run.isdigit():
                            self.assertEqual((low, high, least, most), (0, 0, int(run), int(run)))
                        else:
                            told[run].append((low, most))
            for take, found in told.items():
                if found and all(sum(row.count(take) for row in shape[1]) <= 1 for shape in sounds):
                    many += 1
                    stops = [most for _, most in found]
                    self.check_heard(sheet, program, take, min(low for low, _ in found),
                                     None if None in stops else max(stops))
        self.assertGreater(many, 20)

    def check_heard(self, sheet, program, take, low, most):
        """The only run of a take ever heard has moments from low on, and the last one ahead of most."""
        def heard(P, Q):
            return bool(ask(sheet, program, ("heard", take, P, Q)).bad)

        self.assertFalse(heard(("zero", 0), ("zero", low)))
        self.assertTrue(heard(("zero", low), ("zero", low + 1)))
        if most is None:
            self.assertTrue(heard(("zero", 10 ** 20), (take, 0)))
        else:
            self.assertTrue(heard(("zero", most - 1), ("zero", most)))
            self.assertFalse(heard(("zero", most), (take, 0)))

    def test_ask(self):
        seen = Counter()
        for rng, draw, sheet, program, rows in self.draws(73, 80):
            for kind in KINDS:
                fault = drawn_fault(rng, draw, program, kind, BIG // 9)
                finding = ask(sheet, program, fault)
                seen[finding.state] += 1
                ends_of = [row for row in (finding.least_bad, finding.least_good) if row is not None]
                for row in [*rows, *ends_of, *self.beside(sheet, ends_of)]:
                    bad = self.is_bad(sheet, program, row, fault)
                    self.assertIs(row in finding.bad, bad, (program.edits, sheet.facts, fault, row))
                    self.assertIs(row in finding.good, not bad)
                    self.assertLessEqual(order(finding.least_bad if bad else finding.least_good), order(row))
        self.assertGreater(min(seen["sure"], seen["open"]), 60)

    def test_programs_with_many_outcomes(self):
        # Each of these has some hundred ways in which its places can lie.
        rng = random.Random(75)
        sheet = Sheet(("A", "l", "m", "n"), ("A",))
        for lines in (("put v> A 0 A", "drop A l+13 m+11", "drop A n-20 n", "if heard A l", "end", "put <v A 0 m-30"),
                      ("put <v A 0 A-7", "pin p ahead A m", "pin q ahead A 25", "drop A l l+10", "drop A n-29 n+4",
                       "nudge p 3"),
                      ("put <v A 26 A", "pin p ahead A n-15", "drop A l-7 m-13", "copy <v v> <v", "nudge p -3")):
            program = Program.read("tracks: v\n" + "".join(f"{line}\n" for line in lines))
            found = dict(shapes(sheet, program))
            rows = [recording_of(rng, sheet, rng.choice((20, 60, 10 ** 6))) for _ in range(60)]
            for row in rows:
                self.assertLessEqual(order(found[shape_of(program(sheet, row))]), order(row))
            for fault in (("wrong",), ("blip", 7), ("missing", "A", ("l", 5), ("m", -8)), ("disorder", "v", "A"),
                          ("twice", "A", ("zero", 0), ("A", 0)), ("heard", "A", ("m", 0), ("m", 1))):
                finding = ask(sheet, program, fault)
                for row in [*rows, finding.least_bad or finding.least_good]:
                    bad = self.is_bad(sheet, program, row, fault)
                    self.assertEqual((row in finding.bad, row in finding.good), (bad, not bad))
                    self.assertLessEqual(order(finding.least_bad if bad else finding.least_good), order(row))

    def is_bad(self, sheet, program, row, fault):
        """Reckoned from the runs of the outcome at this recording."""
        outcome, word = program(sheet, row), fault[0]
        if word in ("wrong", "declined"):
            return outcome[:len(fault)] == fault
        if outcome[0] != "sound":
            return False
        if word == "blip":
            return any(run[0] and run[2] - run[1] < fault[1] for runs in outcome[1] for run in runs)
        if word == "disorder":
            runs = [run for run in outcome[1][program.tracks.index(fault[1])] if run[0] == fault[2]]
            return any(two[1] <= one[2] - 1 for at, two in enumerate(runs) for one in runs[:at])
        worth = dict(zip(("zero",) + sheet.marks, (0,) + row))
        _, take, P, Q = fault
        low, high = max(0, worth[P[0]] + P[1]), min(worth[take], worth[Q[0]] + Q[1])
        runs = [run for track in outcome[1] for run in track if run[0] == take]
        # How often a moment is heard changes at the ends of runs alone.
        edges = [edge for edge in {low, *[run[1] for run in runs], *[run[2] for run in runs]} if low <= edge < high]
        counts = [sum(run[1] <= edge < run[2] for run in runs) for edge in edges]
        return {"twice": any(n > 1 for n in counts), "missing": 0 in counts, "heard": any(counts)}[word]

    def times_at(self, sheet, program, row, take, P, Q):
        """((number, k), (number, k)) for the least and the greatest number at a recording, None if there is none."""
        outcome = program(sheet, row)
        worth = dict(zip(("zero",) + sheet.marks, (0,) + row))
        low, high = max(0, worth[P[0]] + P[1]), min(worth[take], worth[Q[0]] + Q[1])
        if outcome[0] != "sound" or low >= high:
            return None
        runs = [run for track in outcome[1] for run in track if run[0] == take]
        edges = [edge for edge in {low, *[run[1] for run in runs], *[run[2] for run in runs]} if low <= edge < high]
        counts = [(sum(run[1] <= edge < run[2] for run in runs), edge) for edge in edges]
        least, most = min(counts), min((-number, edge) for number, edge in counts)
        return least, (-most[0], most[1])

    def test_times(self):
        many = 0
        for rng, draw, sheet, program, rows in self.draws(74, 80):
            P, Q = draw.span("A")
            found = times(sheet, program, "A", P, Q)
            ends_of = [] if found is None else [found[0][1], found[1][1]]
            for row in [*rows, *ends_of, *self.beside(sheet, ends_of)]:
                here = self.times_at(sheet, program, row, "A", P, Q)
                if here is not None:
                    many += 1
                    least, most = here
                    self.assertLessEqual((found[0][0], order(found[0][1])), (least[0], order(row)))
                    self.assertLessEqual((-found[1][0], order(found[1][1])), (-most[0], order(row)))
                    for told, there in zip(found, here):
                        if told[1] == row:
                            self.assertEqual((told[0], told[2]), there)
        self.assertGreater(many, 200)


if __name__ == "__main__":
    unittest.main()
