"""[7]: what a family takes, refuses and answers."""

import unittest

from oracles import Case
from unknowntakes.errors import BadNumbers, UnknownName, UnlikeMarks
from unknowntakes.families import Family
from unknowntakes.sheets import Sheet

BIG = 10 ** 12


def between(low, high, mark="m"):
    """The sheet of one mark that is from low to high; no end if high is None."""
    facts = [("zero", mark, -low)]
    if high is not None:
        facts.append((mark, "zero", high))
    return Sheet((mark,), (), tuple(facts))


class Rows(Case):
    def rows(self, family, top=30):
        return [k for k in range(top) if (k,) in family]


class Building(Rows):
    def test_parts(self):
        one, two = between(1, 2), between(1, 2)
        family = Family(one, two, one)
        self.assertIsInstance(family.parts, tuple)
        self.assertEqual(len(family.parts), 3)
        self.assertTrue(family.parts[0] is one and family.parts[1] is two and family.parts[2] is one)
        self.assertEqual(Family().parts, ())

    def test_unlike_marks(self):
        sheet = Sheet(("a", "b"), ("a", "b"))
        others = (Sheet(("b", "a"), ("a", "b")), Sheet(("a", "b"), ("b", "a")), Sheet(("a", "b"), ("a",)),
                  Sheet(("a", "b", "c"), ("a", "b")), Sheet((), ()))
        for other in others:
            self.fails(UnlikeMarks, Family, sheet, other)
            self.fails(UnlikeMarks, Family, sheet, sheet, sheet, other)
            self.fails(UnlikeMarks, Family, other, sheet, sheet)
            self.fails(UnlikeMarks, Family, sheet, other, sheet)

    def test_document_example(self):
        first = Family(Sheet(("m",), (), (("m", "zero", 5),)))
        second = Family(Sheet(("m",), (), (("zero", "m", -2), ("m", "zero", 9))))
        found = ((first - second).least, (second - first).least, (first | second).hull["m", "zero"],
                 first.near((9,)))
        self.assertEqual(found, ((0,), (6,), 9, (4, (5,))))


class Answers(Rows):
    def test_bool(self):
        self.assertIs(bool(Family()), False)
        self.assertIs(bool(Family(between(1, 1))), True)
        self.assertIs(bool(Family(Sheet((), ()))), True)
        self.assertIs(bool(Family(between(1, 5)) & Family(between(6, 7))), False)
        self.assertIs(bool(Family(between(1, 5)) - Family(between(0, 7))), False)

    def test_in(self):
        family = Family(between(1, 2), between(5, None))
        self.assertEqual(self.rows(family, 8), [1, 2, 5, 6, 7])
        self.assertIs((2,) in family, True)
        self.assertIs((3,) in family, False)
        for row in ((-1,), (), (1, 1), (True,), [1], None, 1):
            self.assertIs(row in family, False)
        self.assertIs(() in Family(Sheet((), ())), True)
        for row in ((), (0,)):
            self.assertIs(row in Family(), False)

    def test_least(self):
        self.assertIsInstance(Family.least, property)
        self.assertIsNone(Family().least)
        self.assertEqual(Family(Sheet((), ())).least, ())
        self.assertEqual(Family(between(7, 8), between(3, 9), between(4, 4)).least, (3,))

    def test_least_is_by_sum_then_as_a_tuple(self):
        def at(*row):
            sheet = Sheet(("a", "b"), ())
            return sheet.measured("a", row[0]).measured("b", row[1])
        self.assertEqual(Family(at(0, 5), at(4, 0)).least, (4, 0))
        self.assertEqual(Family(at(4, 0), at(0, 5)).least, (4, 0))
        self.assertEqual(Family(at(3, 1), at(2, 2), at(4, 0)).least, (2, 2))
        self.assertEqual(Family(at(1, 9), at(10, 0), at(2, 8)).least, (1, 9))

    def test_hull(self):
        self.assertIsInstance(Family.hull, property)
        self.assertIsNone(Family().hull)
        one = Sheet(("a", "b"), ("b",), (("a", "zero", 3), ("zero", "a", -1), ("b", "a", 2)))
        two = Sheet(("a", "b"), ("b",), (("a", "zero", 8), ("zero", "a", -4), ("b", "a", -1)))
        hull = Family(one, two).hull
        self.assertEqual((hull.marks, hull.takes), (("a", "b"), ("b",)))
        self.assertEqual(hull.facts, (
            ("zero", "a", -1), ("a", "zero", 8), ("a", "b", 8), ("b", "zero", 7), ("b", "a", 2)))
        self.assertEqual(hull.facts, tuple(hull.tight()))

    def test_hull_of_one_part(self):
        sheet = Sheet(("a", "b"), (), (("a", "b", 2), ("b", "zero", 3), ("a", "zero", 99)))
        hull = Family(sheet).hull
        self.assertEqual(hull, sheet)
        self.assertEqual(hull.facts, tuple(sheet.tight()))

    def test_hull_without_an_end(self):
        hull = Family(between(4, None), between(2, 3)).hull
        self.assertEqual(hull.facts, (("zero", "m", -2),))
        self.assertEqual(Family(between(0, None), between(2, 3)).hull.facts, ())
        self.assertEqual(Family(Sheet((), ())).hull, Sheet((), ()))


class Near(Rows):
    def test_distance(self):
        family = Family(between(2, 3), between(9, 12))
        answers = {-5: (7, (2,)), 0: (2, (2,)), 2: (0, (2,)), 3: (0, (3,)), 4: (1, (3,)), 6: (3, (3,)), 7: (2, (9,)),
                   9: (0, (9,)), 12: (0, (12,)), 20: (8, (12,)), BIG: (BIG - 12, (12,))}
        for number, answer in answers.items():
            self.assertEqual(family.near((number,)), answer)

    def test_kinds(self):
        answer = Family(between(2, 3)).near((0,))
        self.assertIsInstance(answer, tuple)
        self.assertIsInstance(answer[1], tuple)

    def test_least_at_the_distance(self):
        square = Family(Sheet(("a", "b"), (), (("zero", "a", -6),)))
        self.assertEqual(square.near((4, 5)), (2, (6, 3)))
        self.assertEqual(square.near((4, 1)), (2, (6, 0)))
        self.assertEqual(square.near((4, 1), fixed=("b",)), (2, (6, 1)))

    def test_both_give_way(self):
        family = Family(Sheet(("a", "b"), (), (("a", "b", -7),)))
        self.assertEqual(family.near((10, 10)), (4, (6, 13)))
        self.assertEqual(family.near((10, 10), fixed=("a",)), (7, (10, 17)))
        self.assertEqual(family.near((10, 10), fixed=("b",)), (7, (3, 10)))
        self.assertEqual(family.near((1, 1)), (6, (0, 7)))

    def test_fixed(self):
        family = Family(between(2, 3), between(9, 12))
        self.assertEqual(family.near((3,), fixed=("m",)), (0, (3,)))
        self.assertIsNone(family.near((4,), fixed=("m",)))
        self.assertIsNone(family.near((-1,), fixed=("m",)))
        two = Family(Sheet(("a", "b"), (), (("a", "b", 0), ("b", "a", 0), ("a", "zero", 9))))
        self.assertIsNone(two.near((3, 4), fixed=("a", "b")))
        self.assertEqual(two.near((3, 4), fixed=("a",)), (1, (3, 3)))
        self.assertEqual(two.near((3, 4), fixed=("b", "b")), (1, (4, 4)))
        self.assertIsNone(two.near((10, 4), fixed=("a",)))
        self.assertEqual(two.near((10, 4), fixed=["b"]), (6, (4, 4)))

    def test_some_parts_only(self):
        one = Sheet(("a", "b"), (), (("a", "zero", 2),))
        two = Sheet(("a", "b"), (), (("zero", "a", -5), ("zero", "b", -9)))
        self.assertEqual(Family(one, two).near((5, 0), fixed=("a",)), (9, (5, 9)))
        self.assertEqual(Family(one, two).near((5, 0)), (3, (2, 0)))
        self.assertIsNone(Family(one, two).near((3, 0), fixed=("a",)))

    def test_of_equally_near_parts_the_least(self):
        one = Sheet(("a", "b"), (), (("zero", "a", -7), ("b", "zero", 5), ("zero", "b", -5)))
        two = Sheet(("a", "b"), (), (("zero", "b", -7), ("a", "zero", 5), ("zero", "a", -5)))
        self.assertEqual(Family(one, two).near((5, 5)), (2, (5, 7)))
        self.assertEqual(Family(two, one).near((5, 5)), (2, (5, 7)))

    def test_no_marks(self):
        self.assertEqual(Family(Sheet((), ())).near(()), (0, ()))

    def test_fixed_by_keyword_only(self):
        with self.assertRaises(TypeError):
            Family(between(2, 3)).near((2,), ("m",))

    def test_errors(self):
        family = Family(Sheet(("a", "b"), ("a",)))
        for numbers in ((), (1,), (1, 2, 3)):
            self.fails(BadNumbers, family.near, numbers)
            self.fails(BadNumbers, lambda: family.near(numbers, fixed=("c",)))
        for fixed, name in ((("c",), "c"), (("a", "c", "d"), "c"), (("zero",), "zero"), (("b", "", "zero"), "")):
            self.fails(UnknownName, lambda: family.near((1, 2), fixed=fixed), name=name)
            self.fails(UnknownName, lambda: family.near((-1, -2), fixed=fixed), name=name)

    def test_empty_family(self):
        empty = Family()
        self.assertIsNone(empty.near((1, 2)))
        self.assertIsNone(empty.near(()))
        self.assertIsNone(empty.near((1,), fixed=("c",)))
        gone = Family(between(1, 2)) - Family(between(1, 2))
        self.assertIsNone(gone.near((1, 2), fixed=("c",)))


class Together(Rows):
    def setUp(self):
        self.first = Family(between(2, 5), between(9, None))
        self.second = Family(between(4, 10), between(0, 0))

    def tearDown(self):
        self.assertEqual([len(self.first.parts), len(self.second.parts)], [2, 2])
        self.assertEqual(self.rows(self.first, 12), [2, 3, 4, 5, 9, 10, 11])
        self.assertEqual(self.rows(self.second, 12), [0, 4, 5, 6, 7, 8, 9, 10])

    def test_either(self):
        self.assertEqual(self.rows(self.first | self.second, 13), [0, 2, 3, 4, 5, 6, 7, 8, 9, 10, 11, 12])

    def test_both(self):
        self.assertEqual(self.rows(self.first & self.second), [4, 5, 9, 10])

    def test_the_first_alone(self):
        self.assertEqual(self.rows(self.first - self.second, 14), [2, 3, 11, 12, 13])
        self.assertEqual(self.rows(self.second - self.first), [0, 6, 7, 8])

    def test_parts_of_returned_families(self):
        for family in (self.first | self.second, self.first & self.second, self.first - self.second):
            self.assertIsInstance(family, Family)
            self.assertTrue(all(isinstance(part, Sheet) for part in family.parts))
            self.assertEqual({(part.marks, part.takes) for part in family.parts}, {(("m",), ())})
            for number in range(20):
                self.assertIs((number,) in family, any((number,) in part for part in family.parts))

    def test_parts_that_do_not_change_are_not_worked_out_again(self):
        sheet = Sheet(("a", "b"), (), (("a", "b", 3), ("a", "b", 4), ("b", "zero", 9)))
        other = sheet.with_fact("a", "zero", 2)
        for family in (Family(sheet) | Family(sheet), Family(sheet) & Family(sheet), Family(sheet) | Family(other)):
            self.assertEqual(len(family.parts), 1)
            self.assertIs(family.parts[0], sheet)
        self.assertIs((Family(sheet) & Family(other)).parts[0], other)

    def test_takes_are_kept(self):
        one = Family(Sheet(("a", "b"), ("b", "a"), (("a", "zero", 5),)))
        two = Family(Sheet(("a", "b"), ("b", "a"), (("b", "zero", 5),)))
        for family in (one | two, one & two, one - two):
            self.assertEqual({(part.marks, part.takes) for part in family.parts}, {(("a", "b"), ("b", "a"))})
            self.assertEqual((family.hull.marks, family.hull.takes), (("a", "b"), ("b", "a")))

    def test_within(self):
        self.assertIs(self.first.within(self.second), False)
        self.assertIs((self.first & self.second).within(self.first), True)
        self.assertIs(self.first.within(self.first), True)
        self.assertIs(Family(between(3, 8)).within(Family(between(0, 5), between(6, 9))), True)
        self.assertIs(Family(between(3, 8)).within(Family(between(0, 5), between(7, 9))), False)
        self.assertIs(Family(between(3, None)).within(Family(between(0, 5), between(6, 9))), False)

    def test_equal(self):
        self.assertTrue(Family(between(1, 9)) == Family(between(4, 9), between(1, 4)))
        self.assertFalse(Family(between(1, 9)) != Family(between(4, 9), between(1, 4)))
        self.assertTrue(Family(between(1, 9)) == Family(between(5, 9), between(1, 4)))
        self.assertFalse(Family(between(1, 9)) == Family(between(6, 9), between(1, 4)))
        self.assertTrue(Family(between(1, 9)) != Family(between(6, 9), between(1, 4)))
        self.assertFalse(Family(between(1, 9)) == Family(between(1, 10)))
        self.assertFalse(Family(between(1, 10)) == Family(between(1, 9)))
        self.assertTrue(Family(between(1, None)) == Family(between(5, None), between(1, 4)))

    def test_equal_to_nothing_else(self):
        sheet = between(1, 9)

        class Like:
            parts = (sheet,)

            def __eq__(self, other):
                return True

        for other in (None, 5, sheet, (sheet,), [sheet], (), False, Like()):
            for family in (Family(sheet), Family()):
                self.assertIs(family == other, False)
                self.assertIs(family != other, True)
        self.assertIs(sheet == Family(sheet), False)

    def test_unlike_marks(self):
        one = Sheet(("a", "b"), ("a", "b"))
        others = (Sheet(("b", "a"), ("a", "b")), Sheet(("a", "b"), ("b", "a")), Sheet(("a", "b"), ("a",)),
                  Sheet(("a", "b", "c"), ("a", "b")), Sheet((), ()))
        for other in others:
            for first, second in ((Family(one), Family(other)), (Family(other), Family(one))):
                self.fails(UnlikeMarks, lambda: first | second)
                self.fails(UnlikeMarks, lambda: first & second)
                self.fails(UnlikeMarks, lambda: first - second)
                self.fails(UnlikeMarks, first.within, second)
                self.assertIs(first == second, False)
                self.assertIs(first != second, True)

    def test_an_empty_family_goes_with_each(self):
        empties = (Family(), Family(between(1, 2)) - Family(between(0, None)))
        for empty in empties:
            for family in (self.first, Family(Sheet(("a",), ("a",))), Family(Sheet((), ()))):
                self.assertTrue((empty | family) == family)
                self.assertTrue((family | empty) == family)
                self.assertFalse(empty & family)
                self.assertFalse(family & empty)
                self.assertFalse(empty - family)
                self.assertTrue((family - empty) == family)
                self.assertIs(empty.within(family), True)
                self.assertIs(family.within(empty), False)
                self.assertIs(empty == family, False)
                self.assertIs(family == empty, False)
                self.assertIs(family != empty, True)
        self.assertTrue(empties[0] == empties[1])
        self.assertFalse(empties[0] != empties[1])
        for one in empties:
            for two in empties:
                self.assertFalse((one | two) or (one & two) or (one - two))
                self.assertIs(one.within(two), True)

    def test_no_marks(self):
        all_there = Family(Sheet((), ()))
        self.assertTrue((all_there | all_there) == all_there)
        self.assertTrue((all_there & all_there) == all_there)
        self.assertFalse(all_there - all_there)
        self.assertTrue(all_there.within(all_there))

    def test_more_than_the_limits(self):
        marks = tuple("abcdef")
        steps = [Sheet(marks, (), (("a", "b", k), ("b", "a", -k), ("c", "d", k))) for k in range(12)]
        family = Family(*steps)
        self.assertEqual(family.least, (0, 0, 0, 0, 0, 0))
        self.assertTrue(family - Family(*steps[:11]) == Family(steps[11]))
        self.assertTrue(family & Family(*steps[3:]) == Family(*steps[3:]))
        self.assertTrue(Family(*steps[:6]) | Family(*steps[6:]) == family)
        self.assertEqual(family.near((30, 3, 0, 0, 0, 0)), (8, (22, 11, 0, 0, 0, 0)))

    def test_numbers_of_any_size(self):
        first = Family(between(10 ** 11, 10 ** 12))
        second = Family(between(5 * 10 ** 11, None))
        self.assertEqual((first & second).hull.facts, (("zero", "m", -5 * 10 ** 11), ("m", "zero", 10 ** 12)))
        self.assertEqual((first - second).hull.facts, (("zero", "m", -10 ** 11), ("m", "zero", 5 * 10 ** 11 - 1)))
        self.assertEqual((second - first).least, (10 ** 12 + 1,))
        self.assertTrue((first | second) == Family(between(10 ** 11, None)))
        self.assertFalse((first | second) == Family(between(10 ** 11 + 1, None)))


if __name__ == "__main__":
    unittest.main()
