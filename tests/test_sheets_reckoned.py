"""[4] to [6]: answers of sheets against recordings gone through one by one, and at large numbers."""

import random
import unittest

from oracles import greatest, least, order, random_facts, recordings
from unknowntakes.errors import Contradiction
from unknowntakes.sheets import Sheet

BIG = 10 ** 12
MARKS = ((), ("a",), ("a", "b"), ("a", "b", "c"))
# A number of the facts goes from -3 to 3, so what happens at all happens at marks up to this one.
TOP = (0, 12, 18, 20)


def made(marks, facts):
    """The sheet, or None and the ring."""
    try:
        return Sheet(marks, (), facts), None
    except Contradiction as error:
        return None, error.ring


class Reckoned(unittest.TestCase):
    def check_ring(self, ring, marks, facts):
        known = set(facts) | {("zero", mark, 0) for mark in marks}
        self.assertTrue(ring and set(ring) <= known)
        self.assertEqual([fact[1] for fact in ring], [fact[0] for fact in ring[1:] + ring[:1]])
        self.assertLess(sum(fact[2] for fact in ring), 0)

    def check_chain(self, sheet, x, y):
        chain = sheet.chain(x, y)
        if sheet[x, y] is None:
            self.assertIsNone(chain)
        elif x == y:
            self.assertEqual(chain, [])
        else:
            known = set(sheet.facts) | {("zero", mark, 0) for mark in sheet.marks}
            self.assertIsInstance(chain, list)
            self.assertTrue(set(chain) <= known)
            self.assertEqual((chain[0][0], chain[-1][1]), (x, y))
            self.assertEqual([fact[1] for fact in chain[:-1]], [fact[0] for fact in chain[1:]])
            self.assertEqual(sum(fact[2] for fact in chain), sheet[x, y])


class Small(Reckoned):
    def test_against_all_recordings(self):
        rng = random.Random(5)
        refused = 0
        for turn in range(150):
            many = turn % 4
            marks, top = MARKS[many], TOP[many]
            facts = random_facts(rng, marks, rng.randint(0, 6), -3, 3) if many else ()
            rows = recordings(marks, facts, top)
            sheet, ring = made(marks, facts)
            if sheet is None:
                refused += 1
                self.assertEqual(rows, [])
                self.check_ring(ring, marks, facts)
            else:
                self.check_answers(sheet, rows)
        self.assertGreater(refused, 20)

    def check_answers(self, sheet, rows):
        names = ("zero",) + sheet.marks
        tight = []
        for one, x in enumerate(names):
            for two, y in enumerate(names):
                found = max((0, *row)[one] - (0, *row)[two] for row in rows)
                # More than every chain can add up to: there is no greatest.
                found = None if found > 3 * len(sheet.marks) else found
                self.assertEqual(sheet[x, y], found)
                self.check_chain(sheet, x, y)
                if x != y and found is not None and (x, found) != ("zero", 0):
                    tight.append((x, y, found))
        self.assertEqual(sheet.tight(), tight)
        self.assertEqual(sheet.least, min(rows, key=order))
        self.assertEqual(sheet.least, tuple(map(min, zip(*rows))))

    def test_in_against_all_recordings(self):
        rng = random.Random(6)
        for turn in range(60):
            marks = MARKS[1 + turn % 3]
            sheet, _ = made(marks, random_facts(rng, marks, rng.randint(0, 6), -2, 4))
            if sheet is not None:
                rows = set(recordings(marks, sheet.facts, 6))
                for _ in range(200):
                    row = tuple(rng.randint(-1, 6) for _ in marks)
                    self.assertIs(row in sheet, row in rows)

    def test_pairs_against_all_recordings(self):
        rng = random.Random(7)
        counts = {True: 0, False: 0}
        for turn in range(250):
            marks = MARKS[1 + turn % 2]
            first, _ = made(marks, random_facts(rng, marks, rng.randint(0, 5), -2, 2))
            second, _ = made(marks, random_facts(rng, marks, rng.randint(0, 5), -2, 2))
            if first is not None and second is not None:
                one = set(recordings(marks, first.facts, 18))
                two = set(recordings(marks, second.facts, 18))
                self.assertIs(first.within(second), one <= two)
                self.assertIs(first == second, one == two)
                self.assertIs(first != second, one != two)
                counts[one == two] += 1
                self.check_both(first, second, one & two)
        self.assertGreater(min(counts.values()), 10)

    def check_both(self, first, second, rows):
        try:
            both = first & second
        except Contradiction as error:
            self.assertEqual(rows, set())
            self.check_ring(error.ring, first.marks, first.facts + second.facts)
        else:
            self.assertEqual(both.least, min(rows, key=order))
            self.assertEqual(set(recordings(both.marks, both.facts, 18)), rows)


class Large(Reckoned):
    def test_six_marks_and_twenty_facts(self):
        rng = random.Random(8)
        marks = tuple("abcdef")
        names = ("zero",) + marks
        kept = 0
        for turn in range(150):
            many = 20 if turn % 2 else rng.randint(1, 20)
            facts = random_facts(rng, marks, many, -BIG // (2 if turn % 3 else 50), BIG)
            sheet, ring = made(marks, facts)
            lowest = least(marks, facts)
            if sheet is None:
                self.assertIsNone(lowest)
                self.check_ring(ring, marks, facts)
            else:
                kept += 1
                self.assertEqual(sheet.least, lowest)
                self.assertTrue(lowest in sheet)
                for x in names:
                    for y in names:
                        self.assertEqual(sheet[x, y], greatest(marks, facts, x, y))
                        self.check_chain(sheet, x, y)
        self.assertGreater(kept, 40)

    def test_long_chain(self):
        marks = tuple("abcdef")
        facts = tuple((x, y, -BIG) for x, y in zip(("zero",) + marks, marks))
        sheet = Sheet(marks, (), facts)
        self.assertEqual(sheet.least, tuple(BIG * k for k in range(1, 7)))
        self.assertEqual(sheet["zero", "f"], -6 * BIG)
        self.assertEqual(sheet.chain("zero", "f"), list(facts))
        self.assertIsNone(sheet["f", "zero"])
        closed = sheet.with_fact("f", "zero", 6 * BIG)
        self.assertEqual(closed["a", "zero"], BIG)
        ring = made(marks, facts + (("f", "zero", 6 * BIG - 1),))[1]
        self.check_ring(ring, marks, facts + (("f", "zero", 6 * BIG - 1),))

    def test_off_by_one_at_large_numbers(self):
        sheet = Sheet(("a", "b"), (), (("a", "b", -BIG), ("b", "zero", BIG)))
        self.assertTrue((0, BIG) in sheet)
        self.assertFalse((1, BIG) in sheet)
        self.assertFalse((0, BIG + 1) in sheet)
        self.assertFalse((0, BIG - 1) in sheet)
        wide = Sheet(("a", "b"), (), (("a", "b", -BIG + 1), ("b", "zero", BIG)))
        self.assertTrue(sheet.within(wide))
        self.assertFalse(wide.within(sheet))
        self.assertFalse(wide == sheet)
        self.assertEqual(wide & sheet, sheet)


if __name__ == "__main__":
    unittest.main()
