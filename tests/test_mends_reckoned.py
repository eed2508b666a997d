"""[24] to [27]: findings made by hand against all recordings, and mends against ask, asked again with the mend."""

import random
import unittest
from collections import Counter
from itertools import combinations, product

from compared import bounded_sheet
from drawn import Draw, recording_of, sheet_of
from oracles import keeps, order
from test_findings_reckoned import KINDS, drawn_fault
from unknowntakes.errors import NotSure
from unknowntakes.families import Family
from unknowntakes.findings import Finding, ask
from unknowntakes.mends import fewest, gentle, loosest, needed, safe_amounts, settles, with_asks
from unknowntakes.playing import standing
from unknowntakes.programs import Program
from unknowntakes.sheets import Sheet

BIG = 10 ** 12


def drawn_sheet(rng, marks, size, ends):
    """A sheet of a few facts that some recording keeps; with ends its marks are at most size."""
    names = ("zero", *marks)
    row = dict(zip(names, [0, *[rng.randint(0, size) for _ in marks]]))
    facts = [(mark, "zero", size) for mark in marks] if ends else []
    for _ in range(rng.randint(1, 8 - len(facts))):
        x, y = rng.sample(names, 2)
        facts.append((x, y, row[x] - row[y] + rng.choice((0, 0, 0, 1, size // 4))))
    return Sheet(marks, (), facts)


def drawn_finding(rng, marks, size, ends=True):
    """Two families without a common recording, not both empty; their parts may overlap."""
    while True:
        bad = Family(*[drawn_sheet(rng, marks, size, ends) for _ in range(rng.choice((0, 1, 2, 3, 4, 5)))])
        good = []
        for _ in range(rng.choice((0, 12, 20, 30))):
            part = drawn_sheet(rng, marks, size, ends)
            if not Family(part) & bad and len(good) < 5:
                good.append(part)
        if bad or good:
            return Finding(bad, Family(*good)) if rng.random() < 0.5 else Finding(Family(*good), bad)


class Hand:
    """A finding made by hand with all its recordings, whose marks are at most size."""

    def __init__(self, rng, turn):
        self.marks, size = [(("a", "b", "c"), 4), (("a", "b"), 6), (("d", "a", "c", "b"), 2), (("a",), 9)][turn % 4]
        self.finding = drawn_finding(rng, self.marks, size)
        rows = sorted(product(range(size + 1), repeat=len(self.marks)), key=order)
        self.bad, self.good = [
            [row for row in rows if any(keeps(self.marks, part.facts, row) for part in family.parts)]
            for family in (self.finding.bad, self.finding.good)]
        self.names = ("zero", *self.marks)

    def worth(self, row, x, y):
        clock = dict(zip(self.names, (0, *row)))
        return clock[x] - clock[y]

    def keeps(self, row, facts):
        return all(self.worth(row, x, y) <= c for x, y, c in facts)

    def loosest(self, x, y):
        if not self.bad:
            return ("sure",)
        g = max(self.worth(row, x, y) for row in self.bad) + 1
        good = [row for row in self.good if self.worth(row, x, y) >= g]
        return ("fact", g, [row for row in self.bad if self.worth(row, x, y) == g - 1][0], good[0] if good else None)

    def gentle(self):
        if not self.good:
            return ("nothing",)
        pairs = [(x, y) for x in self.names for y in self.names if x != y]
        tight = [(x, y, max(self.worth(row, x, y) for row in self.good)) for x, y in pairs]
        facts = [fact for fact in tight if fact[0] != "zero" or fact[2] != 0]
        inside = [row for row in self.bad if self.keeps(row, facts)]
        if inside:
            rows = [(x, y, [row for row in self.good if self.worth(row, x, y) >= self.worth(inside[0], x, y)][0])
                    for x, y in pairs]
            return ("inside", inside[0], rows)
        for fact in facts[::-1]:
            rest = [other for other in facts if other != fact]
            if not any(self.keeps(row, rest) for row in self.bad):
                facts = rest
        return ("facts", facts)

    def settles(self, marks):
        at = [self.marks.index(mark) for mark in marks]
        pairs = [(one, two) for one in self.bad for two in self.good if all(one[k] == two[k] for k in at)]
        return min(pairs, key=lambda pair: (sum(pair[0]) + sum(pair[1]), pair)) if pairs else None

    def fewest(self):
        for many in range(len(self.marks) + 1):
            for marks in combinations(self.marks, many):
                if self.settles(marks) is None:
                    return marks


class Hands(unittest.TestCase):
    def hands(self, seed, turns):
        rng = random.Random(seed)
        for turn in range(turns):
            yield rng, Hand(rng, turn)

    def told(self, hand):
        return [[part.facts for part in family.parts] for family in (hand.finding.bad, hand.finding.good)]

    def test_loosest(self):
        seen = Counter()
        for rng, hand in self.hands(121, 300):
            for x, y in [(x, y) for x in hand.names for y in hand.names if x != y]:
                wanted = hand.loosest(x, y)
                self.assertEqual(loosest(hand.finding, x, y), wanted, self.told(hand))
                seen[wanted[0], wanted[-1] is None] += 1
        self.assertGreater(min(seen["sure", False], seen["fact", True], seen["fact", False]), 50, seen)

    def test_gentle(self):
        seen = Counter()
        for rng, hand in self.hands(122, 400):
            wanted = hand.gentle()
            self.assertEqual(gentle(hand.finding), wanted, self.told(hand))
            seen[wanted[0]] += 1
            if wanted[0] == "facts":
                seen["facts", len(wanted[1]) > 1] += 1
        self.assertGreater(min(seen["nothing"], seen["inside"], seen["facts", True], seen["facts", False]), 20, seen)

    def test_settles_and_fewest(self):
        seen = Counter()
        for rng, hand in self.hands(123, 250):
            wanted = hand.fewest()
            self.assertEqual(fewest(hand.finding), wanted, self.told(hand))
            seen[len(wanted)] += 1
            for many in range(len(hand.marks) + 1):
                for marks in combinations(hand.marks, many):
                    turned = rng.sample(marks, many) + list(marks[:rng.randint(0, 1)])
                    self.assertEqual(settles(hand.finding, *turned), hand.settles(marks), (self.told(hand), marks))
        self.assertGreater(min(seen[0], seen[1], seen[2], seen[3]), 10, seen)

    def test_findings_of_the_program(self):
        """What ask and compare return may be passed."""
        rng = random.Random(124)
        for turn in range(60):
            marks, takes = (("A", "m", "n"), ("A",))
            sheet = bounded_sheet(rng, marks, takes, 4)
            draw = Draw(rng, marks, takes)
            program = draw.program(rng.randint(2, 4), sheet, recording_of(rng, sheet, 4))
            finding = ask(sheet, program, drawn_fault(rng, draw, program, rng.choice(KINDS)))
            hand = Hand.__new__(Hand)
            hand.marks, hand.names, hand.finding = marks, ("zero", *marks), finding
            rows = sorted([row for row in product(range(5), repeat=3) if row in sheet], key=order)
            hand.bad = [row for row in rows if row in finding.bad]
            hand.good = [row for row in rows if row in finding.good]
            x, y = rng.sample(hand.names, 2)
            self.assertEqual(loosest(finding, x, y), hand.loosest(x, y))
            self.assertEqual(gentle(finding), hand.gentle())
            self.assertEqual(fewest(finding), hand.fewest())
            self.assertEqual(settles(finding, "m"), hand.settles(["m"]))


class LargeHands(unittest.TestCase):
    """Families with and without upper ends, numbers up to 10 ** 12: drawn recordings, and the facts themselves."""

    MARKS = ("a", "b", "c", "d")

    def findings(self, seed, turns):
        rng = random.Random(seed)
        for turn in range(turns):
            marks = self.MARKS[:rng.randint(1, 4)]
            finding = drawn_finding(rng, marks, rng.choice((BIG, 50)), ends=False)
            rows = [[(recording_of(rng, part, BIG)) for part in family.parts for _ in range(10)]
                    for family in (finding.bad, finding.good)]
            yield rng, marks, finding, rows[0], rows[1]

    def worth(self, marks, row, x, y):
        clock = dict(zip(("zero", *marks), (0, *row)))
        return clock[x] - clock[y]

    def test_loosest(self):
        seen = Counter()
        for rng, marks, finding, bads, goods in self.findings(131, 250):
            x, y = rng.sample(("zero", *marks), 2)
            told = loosest(finding, x, y)
            seen[told[0]] += 1
            if told[0] == "sure":
                self.assertEqual(finding.state, "sure")
            elif told[0] == "none":
                self.assertIn(None, [part[x, y] for part in finding.bad.parts])
            else:
                _, g, bad, good = told
                self.assertEqual(g - 1, max(part[x, y] for part in finding.bad.parts))
                self.assertTrue(bad in finding.bad and self.worth(marks, bad, x, y) == g - 1)
                if good is not None:
                    self.assertTrue(good in finding.good and self.worth(marks, good, x, y) >= g)
                for row in goods:
                    if self.worth(marks, row, x, y) >= g:
                        self.assertLessEqual(order(good), order(row))
                for row in bads:
                    self.assertTrue(self.worth(marks, row, x, y) < g - 1 or order(bad) <= order(row))
        self.assertGreater(min(seen.values()), 10, seen)

    def test_gentle(self):
        seen = Counter()
        for rng, marks, finding, bads, goods in self.findings(132, 300):
            told = gentle(finding)
            seen[told[0]] += 1
            if told[0] == "nothing":
                self.assertEqual(finding.state, "never")
            elif told[0] == "facts":
                facts = told[1]
                self.assertTrue(finding.good.within(Family(Sheet(marks, (), facts))))
                self.assertFalse(finding.bad & Family(Sheet(marks, (), facts)))
                tight = finding.good.hull.tight()
                self.assertEqual(facts, [fact for fact in tight if fact in facts])
                for fact in facts:
                    rest = [other for other in facts if other != fact]
                    self.assertTrue(finding.bad & Family(Sheet(marks, (), rest)))
            else:
                _, bad, rows = told
                self.assertTrue(bad in finding.bad and bad in finding.good.hull)
                names = ("zero", *marks)
                self.assertEqual([row[:2] for row in rows], [(x, y) for x in names for y in names if x != y])
                for x, y, good in rows:
                    number = self.worth(marks, bad, x, y)
                    self.assertTrue(good in finding.good and self.worth(marks, good, x, y) >= number)
                    for row in goods:
                        if self.worth(marks, row, x, y) >= number:
                            self.assertLessEqual(order(good), order(row))
        self.assertGreater(min(seen.values()), 10, seen)

    def test_settles(self):
        seen = Counter()
        for rng, marks, finding, bads, goods in self.findings(133, 250):
            chosen = rng.sample(marks, rng.randint(0, len(marks)))
            at = [marks.index(mark) for mark in chosen]
            pair = settles(finding, *chosen)
            seen[pair is None] += 1
            if pair is not None:
                bad, good = pair
                self.assertTrue(bad in finding.bad and good in finding.good)
                self.assertEqual([bad[k] for k in at], [good[k] for k in at])
            for one in bads:
                for two in goods:
                    if all(one[k] == two[k] for k in at):
                        self.assertLessEqual((sum(pair[0]) + sum(pair[1]), pair), (sum(one) + sum(two), (one, two)))
            few = fewest(finding)
            self.assertIsNone(settles(finding, *few))
            for mark in few:
                self.assertIsNotNone(settles(finding, *[other for other in few if other != mark]))
        self.assertGreater(min(seen.values()), 40, seen)


class Asked(unittest.TestCase):
    """Mends of programs against ask, asked again."""

    def draws(self, seed, turns, many=4, most=8):
        rng = random.Random(seed)
        for turn in range(turns):
            marks, takes = [(("A", "m", "n"), ("A",)), (("A", "m"), ("A",)), (("B", "A", "m"), ("A", "B"))][turn % 3]
            size = (30, 6, BIG)[turn % 3 if turn % 5 else 2]
            sheet = sheet_of(rng, marks, takes, rng.randint(0, most), -size // 3, size)
            draw = Draw(rng, marks, takes, ("one", "two") if turn % 4 == 1 else ("voice",), (-size // 5, size // 4))
            program = draw.program(rng.randint(1, many), sheet, tuple(min(number, 60) for number in sheet.least))
            yield rng, sheet, draw, program, size

    def test_needed(self):
        seen = Counter()
        for rng, sheet, draw, program, size in self.draws(141, 400, 5, 4):
            faults = [drawn_fault(rng, draw, program, rng.choice(KINDS), 9) for _ in range(rng.randint(0, 2))]
            faults.append(("wrong",))
            finding = ask(sheet, program, *faults)
            mend = gentle(finding)
            if mend[0] == "facts" and len(mend[1]) + len(sheet.facts) <= 8 and rng.random() < 0.8:
                facts = [*sheet.facts, *mend[1]]
                sheet = Sheet(sheet.marks, sheet.takes, rng.sample(facts, len(facts)))
            elif not finding:
                with self.assertRaises(NotSure) as caught:
                    needed(sheet, program, *faults)
                self.assertEqual(caught.exception.recording, finding.least_bad)
                seen["not sure"] += 1
                continue
            left = list(sheet.facts)
            for at in range(len(left) - 1, -1, -1):
                rest = left[:at] + left[at + 1:]
                if ask(Sheet(sheet.marks, sheet.takes, rest), program, *faults).state == "sure":
                    left = rest
            self.assertEqual(needed(sheet, program, *faults), left, (program.edits, sheet.facts, faults))
            seen[min(len(left), 2)] += 1
        self.assertGreater(min(seen[0], seen[1], seen[2], seen["not sure"]), 10, seen)

    def test_safe_amounts(self):
        seen = Counter()
        for rng, sheet, draw, program, size in self.draws(142, 400):
            steps = [(step, which) for step in range(len(program)) for which in (1, 2) if self.has(program, step, which)]
            if not steps:
                continue
            step, which = rng.choice(steps)
            faults = [drawn_fault(rng, draw, program, rng.choice(KINDS), 9) for _ in range(rng.randint(1, 2))]
            ranges = safe_amounts(sheet, program, step, which, *faults)
            words = (program.edits, sheet.facts, step, which, faults, ranges)
            for one, two in zip(ranges, ranges[1:]):
                self.assertLess(one[1] + 1, two[0], words)
            ends = [end for pair in ranges for end in pair if end is not None]
            amounts = {*range(-4, 5), *[end + more for end in ends for more in (-1, 0, 1)], -3 * size, 3 * size,
                       rng.randint(-size, size), rng.randint(-size, size), 10 ** 14, -10 ** 14}
            for amount in amounts:
                safe = any((low is None or low <= amount) and (high is None or amount <= high) for low, high in ranges)
                state = ask(sheet, program.with_amount(step, which, amount), *faults).state
                self.assertIs(safe, state == "sure", (amount, *words))
            seen["all" if ranges == [(None, None)] else min(len(ranges), 2)] += 1
            seen["if"] += program[step][0] == "if"
        self.assertGreater(min(seen["all"], seen[0], seen[1], seen[2], seen["if"]), 3, seen)

    def has(self, program, step, which):
        edit = program[step][1] if program[step][0] == "if" else program[step]
        return sum(isinstance(part, tuple) and len(part) == 2 for part in edit[1:]) >= which

    def test_mended(self):
        """With the mend the answer is sure."""
        seen = Counter()
        for rng, sheet, draw, program, size in self.draws(143, 400):
            fault = drawn_fault(rng, draw, program, rng.choice(("wrong", *KINDS)), 9)
            finding = ask(sheet, program, fault)
            x, y = rng.sample(("zero", *sheet.marks), 2)
            told = loosest(finding, x, y)
            if told[0] == "fact" and told[3] is not None:
                self.assertTrue(ask(sheet.with_fact(y, x, -told[1]), program, fault))
                self.assertFalse(ask(sheet.with_fact(y, x, 1 - told[1]), program, fault))
                seen["loosest"] += 1
            kept = gentle(finding)
            if kept[0] == "facts":
                closer = Sheet(sheet.marks, sheet.takes, (*sheet.facts, *kept[1]))
                self.assertTrue(ask(closer, program, fault))
                self.assertTrue(finding.good.within(Family(closer)))
                asked = with_asks(program, kept[1])
                if fault != ("declined",):
                    self.assertTrue(ask(sheet, asked, *[self.behind(fault, len(kept[1]))]))
                for row in [recording_of(rng, sheet, size) for _ in range(5)]:
                    if row in finding.good:
                        self.assertEqual(self.shifted(standing(sheet, program, row), len(kept[1])),
                                         standing(sheet, asked, row))
                seen["gentle"] += 1
            marks = fewest(finding)
            for row in [recording_of(rng, sheet, size) for _ in range(5)]:
                closer = sheet
                for mark in marks:
                    closer = closer.measured(mark, row[sheet.marks.index(mark)])
                self.assertNotEqual(ask(closer, program, fault).state, "open")
        self.assertGreater(min(seen["loosest"], seen["gentle"]), 20, seen)

    def behind(self, fault, many):
        """The fault when there are so many steps ahead."""
        return (fault[0], fault[1] + many) if fault[0] == "wrong" and len(fault) == 2 else fault

    def shifted(self, outcome, many):
        return outcome if outcome[0] == "sound" else (outcome[0], outcome[1] + many, *outcome[2:])


if __name__ == "__main__":
    unittest.main()
