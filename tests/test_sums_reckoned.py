"""[18] to [20]: spans against all ways to pair places, gaps and lags against all recordings and drawn ones."""

import random
import unittest
from collections import Counter
from itertools import permutations

from drawn import Draw, recording_of, sheet_of
from oracles import order
from test_findings_reckoned import worlds
from unknowntakes.playing import standing
from unknowntakes.programs import Program
from unknowntakes.sums import gap, lag, pairs_bound, span

BIG = 10 ** 12
MARKS = ("A", "m", "B", "n")


def number(sheet, row, place):
    return dict(zip(("zero",) + sheet.marks, (0,) + row))[place[0]] + place[1]


def value(sheet, row, plus, minus):
    return sum(number(sheet, row, place) for place in plus) - sum(number(sheet, row, place) for place in minus)


def paired(sheet, plus, minus):
    """The least of the bounds of all ways to pair the places, None if each has one without a greatest."""
    found = []
    for others in permutations(minus):
        bounds = [sheet[one[0], two[0]] for one, two in zip(plus, others)]
        if None not in bounds:
            found.append(sum(bounds))
    if not found:
        return None
    return min(found) + sum(place[1] for place in plus) - sum(place[1] for place in minus)


class Spans(unittest.TestCase):
    def draws(self, seed, turns, marks=MARKS):
        rng = random.Random(seed)
        for turn in range(turns):
            size = (BIG, 9)[turn % 2]
            sheet = sheet_of(rng, marks, (), rng.randint(2, 12), -size // 3, size)
            many = rng.randint(0, 5)
            draw = Draw(rng, marks, (), amounts=(-size, size))
            yield rng, sheet, tuple(draw.place() for _ in range(many)), tuple(draw.place() for _ in range(many))

    def test_all_ways_to_pair(self):
        seen = Counter()
        for rng, sheet, plus, minus in [*self.draws(81, 300), *self.draws(82, 100, ("a", "b", "c", "d", "e", "f"))]:
            found = span(sheet, plus, minus)
            wanted = paired(sheet, plus, minus)
            seen[wanted is None] += 1
            self.assertEqual(None if found is None else found[0], wanted)
            if found is not None:
                greatest, pairs, row = found
                self.assertEqual(pairs_bound(sheet, plus, minus, pairs), greatest)
                self.assertIn(row, sheet)
                self.assertEqual(value(sheet, row, plus, minus), greatest)
        self.assertGreater(min(seen.values()), 60)

    def test_drawn_recordings(self):
        for rng, sheet, plus, minus in self.draws(83, 200):
            found = span(sheet, plus, minus)
            for _ in range(20):
                row = recording_of(rng, sheet, BIG)
                here = value(sheet, row, plus, minus)
                if found is not None:
                    self.assertLessEqual((-found[0], order(found[2])), (-here, order(row)))

    def test_pairs_are_at_least_the_sum(self):
        held = 0
        for rng, sheet, plus, minus in self.draws(84, 300):
            others = rng.sample(minus, len(minus))
            pairs = tuple((one[0], two[0], 1) for one, two in zip(plus, others) if one[0] != two[0])
            bound = pairs_bound(sheet, plus, minus, pairs)
            names = [sheet[x, y] for x, y, _ in pairs]
            self.assertIs(bound is None, None in names)
            if bound is not None:
                held += 1
                self.assertGreaterEqual(bound, span(sheet, plus, minus)[0])
                self.assertGreaterEqual(bound, value(sheet, recording_of(rng, sheet, BIG), plus, minus))
        self.assertGreater(held, 50)

    def test_twenty_places(self):
        rng = random.Random(85)
        for turn in range(40):
            sheet = sheet_of(rng, MARKS, (), 12, -BIG // 3, BIG)
            places = [(rng.choice(("zero",) + MARKS), rng.randint(-BIG, BIG)) for _ in range(40)]
            found = span(sheet, tuple(places[:20]), tuple(places[20:]))
            if found is not None:
                self.assertEqual(pairs_bound(sheet, tuple(places[:20]), tuple(places[20:]), found[1]), found[0])
                self.assertEqual(value(sheet, found[2], places[:20], places[20:]), found[0])

    def test_least_recordings_with_it(self):
        for rng, draw, world in worlds(86, 150):
            many = rng.randint(0, 4)
            plus, minus = [tuple(draw.place() for _ in range(many)) for _ in range(2)]
            worths = [(-value(world.sheet, row, plus, minus), order(row), row) for row in world.rows]
            best = min(worths)
            found = span(world.sheet, plus, minus)
            self.assertEqual((found[0], found[2]), (-best[0], best[2]))


class Small(unittest.TestCase):
    def check(self, total, wanted, told):
        found = None if total is None else (total.lowest, total.highest, total.lowest_at, total.highest_at)
        self.assertEqual(found, wanted, told)
        return "none" if wanted is None else "one" if wanted[0] == wanted[1] else "several"

    def test_gaps(self):
        seen = Counter()
        for rng, draw, world in worlds(87, 300):
            pins = ["p", "q", "r", *[f"<{track}" for track in draw.tracks], *[f"{track}>" for track in draw.tracks]]
            for _ in range(5):
                p, q = rng.choice(pins), rng.choice(pins)
                told = (world.program.edits, world.sheet.facts, p, q)
                seen[self.check(gap(world.sheet, world.program, p, q), world.gap(p, q), told)] += 1
        self.assertGreater(min(seen.values()), 60)

    def test_lags(self):
        seen = Counter()
        for rng, draw, world in worlds(88, 300):
            for _ in range(3):
                one, two = [(rng.choice(draw.tracks), rng.choice(draw.takes)) for _ in range(2)]
                P, Q = draw.span(one[1])
                told = (world.program.edits, world.sheet.facts, one, two, P, Q)
                total = lag(world.sheet, world.program, one, two, P, Q)
                seen[self.check(total, world.lag(one, two, P, Q), told)] += 1
        self.assertGreater(min(seen.values()), 20)


class Large(unittest.TestCase):
    def draws(self, seed, turns):
        """(rng, sheet, program, recordings) on two tracks, with numbers up to 10 ** 12."""
        rng = random.Random(seed)
        for turn in range(turns):
            facts = [("m", "A", 0), ("n", "B", 0), ("m", "n", rng.randint(0, BIG))]
            facts += [(mark, "zero", BIG) for mark in MARKS] if turn % 2 else [("B", "A", 5)]
            sheet = sheet_of(rng, MARKS, ("A", "B"), 0, 0, 0)
            for fact in facts:
                sheet = sheet.with_fact(*fact)
            lines = ["put one> A 0 A", "put two> B 0 B"] + rng.sample(
                ["drop A m n", "only A m B", "drop B n+7 B", "hush <two 60", "pin p ahead A m-3", "pin q behind B n",
                 "copy <two two> one>", "if most m n\n  put two> A m A\nelse\n  put one> A n m\nend", "nudge p 3",
                 "cut p one>", "move p one> two>", "pin r ahead A m"], rng.randint(1, 4))
            program = Program.read("tracks: one, two\n" + "".join(f"{line}\n" for line in lines))
            yield rng, sheet, program, [recording_of(rng, sheet, BIG) for _ in range(25)]

    def ahead(self, rows, pin):
        for track, row in zip(("one", "two"), rows):
            sizes = [0 if run[0] == "pin" else run[2] - run[1] for run in row]
            if pin in (f"<{track}", f"{track}>"):
                return 0 if pin[0] == "<" else sum(sizes)
            if ("pin", pin) in row:
                return sum(sizes[:row.index(("pin", pin))])
        return None

    def gap_at(self, sheet, program, row, p, q):
        outcome = standing(sheet, program, row)
        ends = [self.ahead(outcome[1], pin) for pin in (p, q)] if outcome[0] == "sound" else [None]
        return None if None in ends else ends[1] - ends[0]

    def test_gaps(self):
        seen = Counter()
        for rng, sheet, program, rows in self.draws(91, 120):
            for p, q in (("<one", "one>"), ("one>", "two>"), ("p", "q"), ("<two", "q"), ("r", "one>")):
                total = gap(sheet, program, p, q)
                for row in rows:
                    here = self.gap_at(sheet, program, row, p, q)
                    if here is not None:
                        seen["there"] += 1
                        self.check_row(total, here, row)
                if total is not None:
                    for end, at in ((total.lowest, total.lowest_at), (total.highest, total.highest_at)):
                        self.assertIs(end is None, at is None)
                        if at is not None:
                            self.assertEqual(self.gap_at(sheet, program, at, p, q), end)
                    seen["no end"] += total.highest is None
        self.assertGreater(min(seen["there"], seen["no end"]), 40)

    def check_row(self, total, here, row):
        if total.lowest is not None:
            self.assertLessEqual((total.lowest, order(total.lowest_at)), (here, order(row)))
        if total.highest is not None:
            self.assertLessEqual((-total.highest, order(total.highest_at)), (-here, order(row)))

    def lags_at(self, sheet, program, row, one, two, P, Q):
        """The lags at a recording, reckoned from the runs of both tracks."""
        outcome = program(sheet, row)
        if outcome[0] != "sound":
            return []
        sides = []
        for track, take in (one, two):
            ahead, runs = 0, []
            for run in outcome[1][program.tracks.index(track)]:
                if run[0] == take:
                    runs.append((run[1], run[2], ahead - run[1]))
                ahead += run[2] - run[1]
            sides.append(runs)
        low, high = number(sheet, row, P), number(sheet, row, Q)
        return [first[2] - second[2] for first in sides[0] for second in sides[1]
                if max(low, first[0], second[0]) < min(high, first[1], second[1])]

    def test_lags(self):
        seen = Counter()
        for rng, sheet, program, rows in self.draws(92, 120):
            for one, two in ((("one", "A"), ("two", "B")), (("two", "A"), ("one", "A")), (("one", "A"), ("one", "A"))):
                P, Q = rng.choice(((("zero", 0), ("A", 0)), (("m", 0), ("n", 0)), (("m", -9), ("m", 20))))
                total = lag(sheet, program, one, two, P, Q)
                for row in rows:
                    for here in self.lags_at(sheet, program, row, one, two, P, Q):
                        seen["there"] += 1
                        self.check_row(total, here, row)
                if total is not None:
                    for end, at in ((total.lowest, total.lowest_at), (total.highest, total.highest_at)):
                        self.assertIs(end is None, at is None)
                        if at is not None:
                            self.assertIn(end, self.lags_at(sheet, program, at, one, two, P, Q))
                    seen["no end"] += total.lowest is None
        self.assertGreater(seen["there"], 500)
        self.assertGreater(seen["no end"], 5)


if __name__ == "__main__":
    unittest.main()
