"""What families rest on: bounds with no more limits, and lists of pieces no longer, than needed."""

import random
import unittest

from oracles import random_facts
from unknowntakes.bounds import lies_in, narrowed, needed_limits, free_bounds
from unknowntakes.covers import is_apart, left_over, slim, widened
from unknowntakes.errors import Contradiction
from unknowntakes.sheets import Sheet


def square(low, high):
    """Two marks, each from low to high."""
    return narrowed(free_bounds(2), [(0, 1, -low), (1, 0, high), (0, 2, -low), (2, 0, high)])


class Limits(unittest.TestCase):
    def check(self, bounds):
        limits = needed_limits(bounds)
        free = free_bounds(len(bounds) - 1)
        self.assertEqual(narrowed(free, limits), bounds)
        for at in range(len(limits)):
            self.assertNotEqual(narrowed(free, limits[:at] + limits[at + 1:]), bounds)

    def test_none_follows_from_the_others(self):
        rng = random.Random(31)
        marks = ("a", "b", "c", "d")
        for turn in range(300):
            sheet = Sheet(marks, ())
            for fact in random_facts(rng, marks, rng.randint(0, 12), -3, 3):
                try:
                    sheet = sheet.with_fact(*fact)
                except Contradiction:
                    pass
            self.check(sheet.bounds)

    def test_tied_marks(self):
        sheet = Sheet(("a", "b", "c"), ()).measured("a", 3).measured("b", 0).measured("c", 3)
        self.check(sheet.bounds)

    def test_nothing_known(self):
        self.assertEqual(needed_limits(free_bounds(4)), [])
        self.assertEqual(needed_limits(free_bounds(0)), [])


class Pieces(unittest.TestCase):
    def test_slim(self):
        pieces = [square(2, 3), square(0, 9), square(5, 12), square(2, 3), square(6, 9), square(5, 12)]
        for order in (pieces, pieces[::-1]):
            self.assertEqual(sorted(slim(order)), sorted([square(0, 9), square(5, 12)]))

    def test_slim_without_ends(self):
        small = narrowed(free_bounds(2), [(0, 1, -50), (1, 0, 90)])
        wide = narrowed(free_bounds(2), [(0, 1, -40)])
        for order in ([small, wide], [wide, small]):
            self.assertEqual(slim(order), [wide])

    def test_a_hole_leaves_four_wide_sides(self):
        whole, hole = square(0, 9), square(4, 5)
        left = left_over(whole, [needed_limits(hole)])
        self.assertEqual(len(left), 4)
        for piece in left:
            self.assertTrue(lies_in(piece, whole) and is_apart(piece, needed_limits(hole)))
            sides = sum(piece[x][y] == whole[x][y] for x, y in ((0, 1), (1, 0), (0, 2), (2, 0)))
            self.assertEqual(sides, 3)

    def test_holes_side_by_side(self):
        holes = [needed_limits(square(k, k)) for k in range(10)]
        self.assertLessEqual(len(left_over(square(0, 9), holes)), 22)

    def test_nothing_is_cut_that_is_not_touched(self):
        self.assertEqual(left_over(square(0, 3), [needed_limits(square(4, 9))]), [square(0, 3)])
        self.assertEqual(left_over(square(0, 3), []), [square(0, 3)])
        self.assertEqual(left_over(square(2, 3), [needed_limits(square(1, 9))]), [])

    def test_apart_only_by_several_limits(self):
        # Each limit of the block is kept somewhere in the whole, all of them nowhere.
        whole = narrowed(free_bounds(3), [(1, 2, 0), (2, 3, 0)])
        block = [(2, 1, -1), (1, 0, 5)]
        self.assertIsNotNone(narrowed(whole, [(1, 0, 5)]))
        self.assertEqual(left_over(whole, [[(3, 2, 0), (2, 1, 0), (1, 3, -1)]]), [whole])
        self.assertTrue(is_apart(whole, block))

    def test_widened(self):
        whole, hole = square(0, 20), needed_limits(square(8, 9))
        wide = widened(whole, square(2, 3), [hole])
        self.assertTrue(lies_in(square(2, 3), wide) and lies_in(wide, whole) and is_apart(wide, hole))
        self.assertFalse(lies_in(wide, square(0, 19)))


if __name__ == "__main__":
    unittest.main()
