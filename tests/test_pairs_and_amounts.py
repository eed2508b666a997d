"""What [23], [26] and [27] stand on: bounds of two recordings at once, and ranges of amounts."""

import random
import unittest

from oracles import random_facts
from unknowntakes.amounts import left_between, with_range
from unknowntakes.errors import Contradiction
from unknowntakes.pairs import behind, equal_limits, halves_order, side_by_side, twin_order, with_twin
from unknowntakes.bounds import narrowed
from unknowntakes.sharing import least_pair_of
from unknowntakes.sheets import Sheet

MARKS = ("a", "b", "c")


def drawn(rng):
    while True:
        try:
            return Sheet(MARKS, (), random_facts(rng, MARKS, rng.randint(0, 6), -5, 9))
        except Contradiction:
            pass


def other_marks(facts):
    """The facts for another recording, whose marks have names of their own."""
    return [(x if x == "zero" else x + x, y if y == "zero" else y + y, c) for x, y, c in facts]


class Pairs(unittest.TestCase):
    def test_side_by_side(self):
        rng = random.Random(221)
        for _ in range(200):
            one, two = drawn(rng), drawn(rng)
            both = Sheet(MARKS + ("aa", "bb", "cc"), (), [*one.facts, *other_marks(two.facts)])
            bounds = side_by_side(one.bounds, two.bounds)
            self.assertEqual(bounds, both.bounds)
            self.assertEqual(halves_order(bounds), (sum(both.least), (one.least, two.least)))

    def test_a_twin(self):
        rng = random.Random(222)
        for _ in range(200):
            sheet = drawn(rng)
            at = rng.randrange(3)
            mark = MARKS[at]
            facts = [(mark + mark if x == mark else x, mark + mark if y == mark else y, c) for x, y, c in sheet.facts]
            both = Sheet(MARKS + (mark + mark,), (), [*sheet.facts, *facts])
            bounds = with_twin(sheet.bounds, at + 1)
            self.assertEqual(bounds, both.bounds)
            least = tuple(both.least[3] if k == at else number for k, number in enumerate(both.least[:3]))
            self.assertEqual(twin_order(bounds, at + 1), (sum(both.least[:3]) + sum(least), (both.least[:3], least)))

    def test_equal_places_of_two(self):
        rng = random.Random(223)
        many = 0
        for _ in range(300):
            one, two = drawn(rng), drawn(rng)
            names = ("zero", *MARKS)
            spots = [rng.randrange(4) for _ in range(2)]
            amounts = [rng.randint(-3, 3) for _ in range(2)]
            limits = equal_limits((spots[0], amounts[0]), behind((spots[1], amounts[1]), 3))
            bounds = narrowed(side_by_side(one.bounds, two.bounds), limits)
            facts = [*one.facts, *other_marks(two.facts)]
            x, y = names[spots[0]], other_marks([(names[spots[1]], "zero", 0)])[0][0]
            if x == y:
                wanted = amounts[0] == amounts[1]
                self.assertIs(bounds is not None, wanted)
                continue
            facts += [(x, y, amounts[1] - amounts[0]), (y, x, amounts[0] - amounts[1])]
            try:
                self.assertEqual(bounds, Sheet(MARKS + ("aa", "bb", "cc"), (), facts).bounds)
                many += 1
            except Contradiction:
                self.assertIsNone(bounds)
        self.assertGreater(many, 50)

    def test_the_least_pair_with_equal_marks(self):
        rng = random.Random(224)
        many = 0
        for _ in range(300):
            one, two = drawn(rng), drawn(rng)
            spots = rng.sample((1, 2, 3), rng.randint(0, 3))
            facts = [*one.facts, *other_marks(two.facts)]
            for spot in spots:
                mark = MARKS[spot - 1]
                facts += [(mark, mark + mark, 0), (mark + mark, mark, 0)]
            found = least_pair_of(one.bounds, two.bounds, spots)
            try:
                least = Sheet(MARKS + ("aa", "bb", "cc"), (), facts).least
                self.assertEqual(found, (sum(least), (least[:3], least[3:])))
                many += 1
            except Contradiction:
                self.assertIsNone(found)
        self.assertGreater(many, 50)


class Ranges(unittest.TestCase):
    def is_in(self, ranges, number):
        return any((low is None or low <= number) and (high is None or number <= high) for low, high in ranges)

    def test_ranges_in_any_order(self):
        rng = random.Random(225)
        for _ in range(2000):
            rows = []
            for _ in range(rng.randint(0, 6)):
                low = rng.randint(-9, 9)
                rows.append((low, low + rng.randint(0, 4)))
            if rng.random() < 0.3:
                rows.append((None, rng.randint(-12, 12)))
            if rng.random() < 0.3:
                rows.append((rng.randint(-12, 12), None))
            if rng.random() < 0.03:
                rows.append((None, None))
            rng.shuffle(rows)
            ranges = []
            for row in rows:
                ranges = with_range(ranges, row)
            left = left_between(ranges)
            for number in range(-30, 31):
                self.assertIs(self.is_in(ranges, number), self.is_in(rows, number), rows)
                self.assertIs(self.is_in(left, number), not self.is_in(rows, number), rows)
            for one, two in zip(left, left[1:]):
                self.assertLess(one[1] + 1, two[0], rows)
            for low, high in left:
                self.assertTrue(low is None or high is None or low <= high, rows)


if __name__ == "__main__":
    unittest.main()
