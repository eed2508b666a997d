"""[7]: answers of families against recordings gone through one by one, and at large numbers."""

import random
import unittest

from oracles import family_recordings, greatest, least, near, order, random_facts, uncovered
from unknowntakes.errors import Contradiction
from unknowntakes.families import Family
from unknowntakes.sheets import Sheet

BIG = 10 ** 12
TOP = 16


def random_sheet(rng, marks, many, low, high):
    """A sheet of about so many facts: those that contradict are left out."""
    sheet = Sheet(marks, ())
    for x, y, c in random_facts(rng, marks, many, low, high):
        try:
            sheet = sheet.with_fact(x, y, c)
        except Contradiction:
            pass
    return sheet


def random_family(rng, marks, parts, many, low, high):
    return Family(*[random_sheet(rng, marks, rng.randint(1, many), low, high) for _ in range(parts)])


class Small(unittest.TestCase):
    def rows(self, family, marks, top=TOP):
        return set(family_recordings(family.parts, marks, top))

    def check_set(self, family, rows, marks):
        self.assertEqual(self.rows(family, marks), rows)
        self.assertIs(bool(family), bool(rows))
        self.assertEqual(family.least, min(rows, key=order) if rows else None)

    def check_pair(self, first, second, marks):
        one, two = self.rows(first, marks), self.rows(second, marks)
        self.check_set(first | second, one | two, marks)
        self.check_set(first & second, one & two, marks)
        self.check_set(first - second, one - two, marks)
        self.assertIs(first.within(second), one <= two)
        self.assertIs(second.within(first), two <= one)
        self.assertIs(first == second, one == two)
        self.assertIs(first != second, one != two)
        self.assertTrue((first - second) | (first & second) == first)
        self.assertIs((first - second) == first, not one & two)
        return one <= two

    def test_pairs_of_two_marks(self):
        rng = random.Random(11)
        for marks in (("a",), ("a", "b")):
            inside = 0
            for turn in range(150):
                first = random_family(rng, marks, rng.randint(0, 3), 4, -5, 5)
                second = random_family(rng, marks, rng.randint(0, 3), 4, -5, 5)
                inside += self.check_pair(first, second, marks)
            self.assertGreater(inside, 20)

    def test_pairs_of_three_marks(self):
        rng = random.Random(12)
        marks = ("a", "b", "c")
        for turn in range(12):
            first = random_family(rng, marks, rng.randint(1, 3), 5, -2, 4)
            second = random_family(rng, marks, rng.randint(1, 3), 5, -2, 4)
            self.check_pair(first, second, marks)

    def test_returned_families(self):
        rng = random.Random(13)
        marks = ("a", "b")
        for turn in range(60):
            first, second, third = [random_family(rng, marks, 3, 4, -4, 5) for _ in range(3)]
            one, two, three = [self.rows(family, marks) for family in (first, second, third)]
            apart = (first - second) | (second - first)
            self.check_set(apart, one ^ two, marks)
            self.check_set(apart - third, (one ^ two) - three, marks)
            self.check_set(third - apart, three - (one ^ two), marks)
            self.check_set((first - second) & (third - second), (one & three) - two, marks)
            self.check_set(first - (first - second), one & two, marks)
            self.assertTrue(first - (first - second) == first & second)
            self.assertTrue(apart == (first | second) - (first & second))
            self.assertIs(apart.within(third), one ^ two <= three)

    def test_hull(self):
        rng = random.Random(14)
        marks = ("a", "b")
        names = ("zero",) + marks
        for turn in range(150):
            family = random_family(rng, marks, rng.randint(1, 3), 4, -4, 5)
            rows = self.rows(family, marks, 24)
            hull = family.hull
            for one, x in enumerate(names):
                for two, y in enumerate(names):
                    most = max((0, *row)[one] - (0, *row)[two] for row in rows)
                    self.assertEqual(hull[x, y], None if most > 10 else most)
            self.assertEqual(hull.facts, tuple(hull.tight()))

    def test_near(self):
        rng = random.Random(15)
        nowhere = 0
        for marks, turns, top, most in ((("a",), 80, 40, 5), (("a", "b"), 80, 40, 4), (("a", "b", "c"), 8, 22, 2)):
            for turn in range(turns):
                family = random_family(rng, marks, rng.randint(1, 3), 4, -most, most)
                rows = self.rows(family, marks, top)
                for _ in range(6):
                    numbers = tuple(rng.randint(-4, 9) for _ in marks)
                    fixed = tuple(mark for mark in marks if rng.random() < 0.35)
                    found = self.near_by_hand(rows, marks, numbers, fixed)
                    nowhere += found is None
                    self.assertEqual(family.near(numbers, fixed=fixed), found)
        self.assertGreater(nowhere, 50)

    def near_by_hand(self, rows, marks, numbers, fixed):
        found = []
        for row in rows:
            gaps = {mark: abs(one - two) for mark, one, two in zip(marks, row, numbers)}
            if not any(gaps[mark] for mark in fixed):
                found.append((max(gaps.values()), order(row), row))
        return (min(found)[0], min(found)[2]) if found else None


class Large(unittest.TestCase):
    MARKS = ("a", "b", "c", "d")

    def facts_of(self, family):
        return [part.facts for part in family.parts]

    def is_within(self, first, second):
        """Reckoned without the families' own operations."""
        return not any(uncovered(self.MARKS, facts, self.facts_of(second)) for facts in self.facts_of(first))

    def test_within_and_equal(self):
        rng = random.Random(21)
        seen = {True: 0, False: 0}
        for turn in range(60):
            first = random_family(rng, self.MARKS, rng.randint(1, 3), 3, -BIG // 4, BIG)
            # Split at a place of its own, with the pieces touching, overlapping or one apart.
            x, y, c = random_facts(rng, self.MARKS, 1, -BIG // 8, BIG // 2)[0]
            halves = []
            for part in first.parts:
                for fact in ((x, y, c), (y, x, -c - rng.choice((1, 1, 1, 0, 2)))):
                    try:
                        halves.append(part.with_fact(*fact))
                    except Contradiction:
                        pass
            second = Family(*halves)
            same = self.is_within(first, second)
            seen[same] += 1
            self.assertIs(first.within(second), same)
            self.assertIs(first == second, same)
            self.assertIs(second.within(first), True)
        self.assertGreater(min(seen.values()), 10)

    def test_operations(self):
        rng = random.Random(22)
        for turn in range(25):
            first = random_family(rng, self.MARKS, 2, 4, -BIG // 2, BIG)
            second = random_family(rng, self.MARKS, 2, 4, -BIG // 2, BIG)
            alone, both, either = first - second, first & second, first | second
            for part in alone.parts:
                self.assertFalse(uncovered(self.MARKS, part.facts, self.facts_of(first)))
                for other in second.parts:
                    self.assertIsNone(least(self.MARKS, part.facts + other.facts))
            for part in first.parts:
                others = self.facts_of(second) + self.facts_of(alone)
                self.assertFalse(uncovered(self.MARKS, part.facts, others))
                others = self.facts_of(both) + self.facts_of(alone)
                self.assertFalse(uncovered(self.MARKS, part.facts, others))
            self.assertTrue(self.is_within(both, first) and self.is_within(both, second))
            self.assertTrue(self.is_within(first, either) and self.is_within(second, either))
            self.assertTrue(either.within(first | second) and alone | both == first)

    def test_rows_beside_the_edges(self):
        rng = random.Random(23)
        for turn in range(40):
            families = [random_family(rng, self.MARKS, 5, 8, -BIG // 2, BIG) for _ in range(2)]
            first, second = families
            either, both, alone = first | second, first & second, first - second
            corners = [part.least for family in (first, second, either, both, alone) for part in family.parts]
            for corner in corners:
                for _ in range(4):
                    row = tuple(max(0, number + rng.choice((-1, 0, 0, 1, BIG))) for number in corner)
                    one, two = row in first, row in second
                    self.assertIs(row in either, one or two)
                    self.assertIs(row in both, one and two)
                    self.assertIs(row in alone, one and not two)

    def test_least_and_hull(self):
        rng = random.Random(24)
        names = ("zero",) + self.MARKS
        for turn in range(60):
            family = random_family(rng, self.MARKS, rng.randint(1, 5), 8, -BIG, BIG)
            rows = [least(self.MARKS, facts) for facts in self.facts_of(family)]
            self.assertEqual(family.least, min(rows, key=order))
            hull = family.hull
            for x in names:
                for y in names:
                    found = [greatest(self.MARKS, facts, x, y) for facts in self.facts_of(family)]
                    self.assertEqual(hull[x, y], None if None in found else max(found))

    def test_near(self):
        rng = random.Random(25)
        nowhere = 0
        for turn in range(60):
            family = random_family(rng, self.MARKS, rng.randint(1, 5), 8, -BIG, BIG)
            numbers = tuple(rng.randint(-BIG // 10, BIG) for _ in self.MARKS)
            fixed = tuple(mark for mark in self.MARKS if rng.random() < 0.25)
            for names in ((), fixed):
                found = near(self.MARKS, self.facts_of(family), numbers, names)
                nowhere += found is None
                self.assertEqual(family.near(numbers, fixed=names), found)
        self.assertGreater(nowhere, 5)

    def test_the_largest_families_in_turn(self):
        # All parts hold the same recording, so that they cut one another in many places.
        rng = random.Random(26)
        names = ("zero",) + self.MARKS
        middle = dict(zip(names, (0, *[rng.randint(BIG // 4, BIG // 3) for _ in self.MARKS])))
        pairs = [(x, y) for x in names for y in names if x != y]
        families = []
        for _ in range(3):
            parts = []
            for _ in range(5):
                facts = [(x, y, middle[x] - middle[y] + rng.randint(0, BIG // 5)) for x, y in rng.sample(pairs, 8)]
                parts.append(Sheet(self.MARKS, (), tuple(facts)))
            families.append(Family(*parts))
        first, second, third = families
        alone = first - second
        both = first & second
        self.assertTrue(first - alone == both)
        self.assertTrue(alone | both == first)
        self.assertTrue(alone - third == first - (second | third))
        self.assertTrue(alone & (first - third) == alone - third)
        apart = alone | (second - first)
        self.assertTrue(apart == (first | second) - both)
        self.assertTrue(alone.within(apart))
        self.assertFalse(alone & both)
        spot = alone.least
        point = Sheet(self.MARKS, ())
        for mark, number in zip(self.MARKS, spot):
            point = point.measured(mark, number)
        less = alone - Family(point)
        self.assertFalse(less == alone)
        self.assertTrue(less.within(alone))
        self.assertFalse(alone.within(less))
        self.assertTrue(less | Family(point) == alone)


if __name__ == "__main__":
    unittest.main()
