"""[2] and [4] to [6]: what a sheet takes, refuses and answers."""

import unittest

from oracles import Case
from unknowntakes.errors import BadFact, BadMarks, BadTakes, Contradiction, UnknownName, UnlikeMarks
from unknowntakes.sheets import Sheet

BIG = 10 ** 12


class Rings(Case):
    def ring_of(self, call, *args):
        with self.assertRaises(Contradiction) as caught:
            call(*args)
        return caught.exception.ring

    def check_ring(self, ring, marks, facts):
        self.assertIsInstance(ring, tuple)
        self.assertTrue(ring)
        for fact in ring:
            self.assertIsInstance(fact, tuple)
            self.assertTrue(fact in facts or fact in [("zero", mark, 0) for mark in marks], fact)
        for one, two in zip(ring, ring[1:] + ring[:1]):
            self.assertEqual(one[1], two[0])
        self.assertLess(sum(fact[2] for fact in ring), 0)


class Building(Rings):
    def test_fields(self):
        facts = (("A", "in", 3), ("in", "zero", 9))
        sheet = Sheet(("A", "in", "B"), ("B", "A"), facts)
        self.assertEqual((sheet.marks, sheet.takes, sheet.facts), (("A", "in", "B"), ("B", "A"), facts))

    def test_facts_may_be_left_out(self):
        self.assertEqual(Sheet(("A",), ("A",)).facts, ())

    def test_arguments_by_name(self):
        sheet = Sheet(takes=("A",), facts=(("A", "zero", 2),), marks=("A", "b"))
        self.assertEqual((sheet.marks, sheet.takes, sheet.facts), (("A", "b"), ("A",), (("A", "zero", 2),)))

    def test_no_marks(self):
        sheet = Sheet((), ())
        self.assertEqual((sheet.marks, sheet.takes, sheet.facts, sheet.least), ((), (), (), ()))
        self.assertTrue(() in sheet)
        self.assertEqual(sheet["zero", "zero"], 0)
        self.assertEqual(sheet.chain("zero", "zero"), [])
        self.assertEqual(sheet.tight(), [])

    def test_names_of_all_letters(self):
        for name in ("a", "z", "A", "Z", "abcdefgh", "AbCdEfGh", "Zero", "zeros", "ZERO"):
            self.assertEqual(Sheet((name,), ()).marks, (name,))

    def test_bad_names(self):
        bad = ("", "abcdefghi", "a1", "1", "a b", "a_b", "a-b", " a", "a\n", "<a", "a>", "\u00e9", "\u0430", "zero",
               5, None, True, b"a", ("a",), ["a"], {"a"}, 1.5)
        for name in bad:
            self.fails(BadMarks, Sheet, ("A", name), ("A",), index=1)
            self.fails(BadMarks, Sheet, (name,), (), index=0)

    def test_marks_there_before(self):
        self.fails(BadMarks, Sheet, ("a", "b", "a", "b"), (), index=2)
        self.assertEqual(Sheet(("a", "A"), ()).marks, ("a", "A"))

    def test_first_bad_mark(self):
        self.fails(BadMarks, Sheet, ("a", "a", "1"), (), index=1)
        self.fails(BadMarks, Sheet, ("a", "1", "a"), (), index=1)
        self.fails(BadMarks, Sheet, ("a", "b", "c", "zero", "c"), (), index=3)

    def test_bad_takes(self):
        self.fails(BadTakes, Sheet, ("a", "b"), ("b", "c"), index=1)
        self.fails(BadTakes, Sheet, ("a", "b"), ("b", "a", "b"), index=2)
        self.fails(BadTakes, Sheet, ("a", "b"), ("zero",), index=0)
        self.fails(BadTakes, Sheet, ("a", "b"), ("a", "a", "c"), index=1)
        self.fails(BadTakes, Sheet, ("a", "b"), ("a", "c", "a"), index=1)
        for take in (5, None, True, ("a",), ["a"], "A", ""):
            self.fails(BadTakes, Sheet, ("a", "b"), ("a", take), index=1)

    def test_bad_facts(self):
        bad = (
            (), ("a",), ("a", "b"), ("a", "b", 1, 1), ("a", "a", 1), ("zero", "zero", 0), ("c", "b", 1),
            ("a", "c", 1), ("a", "b", True), ("a", "b", False), ("a", "b", "1"), ("a", "b", None), ("a", "b", 1.0),
            (1, "b", 1), ("a", 1, 1), (["a"], "b", 1), ("a", ("b",), 1), (None, None, None), ("a", "b", (1,)),
            ("A", "b", 1), (0, "a", 1), ("", "a", 1))
        for fact in bad:
            self.fails(BadFact, Sheet, ("a", "b"), (), (("a", "b", 1), fact, ()), index=1)
            self.fails(BadFact, Sheet, ("a", "b"), ("a",), (fact,), index=0)

    def test_order_of_errors(self):
        ruin = (("a", "zero", -1),)
        self.fails(BadMarks, Sheet, ("a", "a"), ("c",), (("a", "a", 1),), index=1)
        self.fails(BadTakes, Sheet, ("a", "b"), ("c",), (("a", "a", 1),), index=0)
        self.fails(BadTakes, Sheet, ("a", "b"), ("a", "c"), ruin, index=1)
        self.fails(BadFact, Sheet, ("a", "b"), ("a",), ruin + (("a", "a", 1),), index=1)
        self.fails(BadMarks, Sheet, ("a", "zero"), ("a",), ruin, index=1)

    def test_more_than_the_limits(self):
        marks = tuple("abcdefghij")
        facts = tuple((marks[k % 10], marks[(k + 3) % 10], k) for k in range(40))
        sheet = Sheet(marks, marks, facts)
        self.assertEqual(len(sheet.facts), 40)
        self.assertEqual(Sheet(("a",), (), (("a", "zero", 10 ** 40),))["a", "zero"], 10 ** 40)

    def test_returned_lists_may_be_passed_back(self):
        sheet = Sheet(("a", "b"), (), (("a", "b", 2), ("b", "zero", 3)))
        self.assertEqual(Sheet(sheet.marks, sheet.takes, tuple(sheet.tight())), sheet)
        facts = sheet.tight()
        copy = Sheet(sheet.marks, sheet.takes, facts)
        facts.clear()
        self.assertEqual(copy, sheet)
        self.assertIsInstance(copy.facts, tuple)


class Contradictions(Rings):
    def check(self, marks, facts):
        self.check_ring(self.ring_of(Sheet, marks, (), facts), marks, facts)

    def test_rings(self):
        self.check(("a",), (("a", "zero", -1),))
        self.check(("a",), (("a", "zero", 3), ("zero", "a", -4)))
        self.check(("a", "b"), (("a", "b", -1), ("b", "a", 0)))
        self.check(("a", "b", "c"), (("a", "b", 2), ("b", "c", -3), ("c", "a", 0), ("c", "b", 2)))
        self.check(("a", "b", "c"), (("a", "b", -BIG), ("c", "zero", BIG), ("b", "c", -1)))
        self.check(("a", "b"), (("a", "b", 5), ("b", "zero", 0), ("a", "b", -1)))

    def test_equality_is_no_contradiction(self):
        self.assertEqual(Sheet(("a",), (), (("a", "zero", 0),)).least, (0,))
        self.assertEqual(Sheet(("a", "b"), (), (("a", "b", -1), ("b", "a", 1))).least, (0, 1))

    def test_a_ring_takes_the_lesser_of_two_facts(self):
        facts = (("a", "b", 9), ("a", "b", -2), ("b", "a", 7), ("b", "a", 1))
        self.check(("a", "b"), facts)

    def test_ring_of_six_marks(self):
        marks = tuple("abcdef")
        facts = tuple((marks[k], marks[(k + 1) % 6], 10 if k else -51) for k in range(6))
        self.check(marks, facts)
        self.assertEqual(Sheet(marks, (), facts[:5] + (("f", "a", 51),))["f", "a"], 51)


class Answers(Rings):
    def setUp(self):
        facts = (("in", "out", 0), ("out", "A", -2), ("A", "zero", 9))
        self.sheet = Sheet(("A", "in", "out"), ("A",), facts)

    def test_document_example(self):
        sheet = self.sheet
        found = (sheet["in", "A"], sheet["A", "in"], sheet.least, (9, 3, 7) in sheet, sheet.chain("in", "A"))
        self.assertEqual(found, (-2, 9, (2, 0, 0), True, [("in", "out", 0), ("out", "A", -2)]))

    def test_greatest(self):
        self.assertEqual(self.sheet["out", "zero"], 7)
        self.assertEqual(self.sheet["zero", "A"], -2)
        self.assertEqual(self.sheet["zero", "in"], 0)
        self.assertEqual(self.sheet["A", "A"], 0)
        self.assertEqual(self.sheet["zero", "zero"], 0)

    def test_no_greatest(self):
        sheet = Sheet(("a", "b"), (), (("a", "b", 3),))
        self.assertIsNone(sheet["a", "zero"])
        self.assertIsNone(sheet["b", "a"])
        self.assertIsNone(sheet.chain("b", "a"))
        self.assertEqual(sheet["a", "b"], 3)

    def test_chains_through_zero(self):
        sheet = Sheet(("a", "b"), (), (("a", "zero", 4),))
        self.assertEqual(sheet["a", "b"], 4)
        self.assertEqual(sheet.chain("a", "b"), [("a", "zero", 4), ("zero", "b", 0)])
        self.assertEqual(sheet.chain("zero", "b"), [("zero", "b", 0)])

    def test_chain_of_one_name(self):
        self.assertEqual(self.sheet.chain("in", "in"), [])
        self.assertEqual(self.sheet.chain("zero", "zero"), [])

    def test_chain_passes_rings_of_nothing(self):
        facts = (("a", "b", 1), ("b", "a", -1), ("b", "c", 2), ("c", "b", -2), ("c", "d", 5))
        sheet = Sheet(("a", "b", "c", "d"), (), facts)
        self.assertEqual(sheet.chain("a", "d"), [("a", "b", 1), ("b", "c", 2), ("c", "d", 5)])
        self.assertEqual(sheet.chain("c", "a"), [("c", "b", -2), ("b", "a", -1)])

    def test_unknown_names(self):
        for name in ("B", "", "Zero", 5, None, ("A",), ["A"]):
            self.fails(UnknownName, self.sheet.__getitem__, (name, "A"), name=name)
            self.fails(UnknownName, self.sheet.__getitem__, ("A", name), name=name)
            self.fails(UnknownName, self.sheet.chain, name, "zero", name=name)
            self.fails(UnknownName, self.sheet.chain, "zero", name, name=name)

    def test_unknown_x_comes_first(self):
        self.fails(UnknownName, self.sheet.__getitem__, ("X", "Y"), name="X")
        self.fails(UnknownName, self.sheet.chain, "X", "Y", name="X")
        self.fails(UnknownName, self.sheet.chain, "X", "X", name="X")

    def test_chain_is_new_each_time(self):
        self.sheet.chain("in", "A").clear()
        self.assertEqual(len(self.sheet.chain("in", "A")), 2)
        self.sheet.chain("in", "in").append(1)
        self.assertEqual(self.sheet.chain("in", "in"), [])

    def test_least_is_a_property_and_a_tuple(self):
        self.assertIsInstance(Sheet.least, property)
        self.assertEqual(self.sheet.least, (2, 0, 0))
        self.assertIsInstance(self.sheet.least, tuple)

    def test_in(self):
        self.assertIs((9, 3, 7) in self.sheet, True)
        self.assertIs((9, 8, 7) in self.sheet, False)
        self.assertIs((10, 3, 7) in self.sheet, False)
        self.assertIs((9, -1, 7) in self.sheet, False)
        self.assertIs((9, 3) in self.sheet, False)
        self.assertIs((9, 3, 7, 7) in self.sheet, False)
        self.assertIs((9, 0, 7) in self.sheet, True)

    def test_in_takes_integers_only(self):
        for row in ((9, True, 7), (9, False, 7), (9, "3", 7), (9, None, 7), [9, 3, 7], None, 5, "932"):
            self.assertFalse(row in self.sheet)

    def test_not_iterated(self):
        with self.assertRaises(TypeError):
            list(self.sheet)


class Changes(Rings):
    def setUp(self):
        self.sheet = Sheet(("a", "b"), ("a",), (("a", "b", 2), ("b", "zero", 5)))

    def tearDown(self):
        self.assertEqual(self.sheet.marks, ("a", "b"))
        self.assertEqual(self.sheet.takes, ("a",))
        self.assertEqual(self.sheet.facts, (("a", "b", 2), ("b", "zero", 5)))
        self.assertEqual((self.sheet["a", "zero"], self.sheet["b", "a"], self.sheet.least), (7, 5, (0, 0)))

    def test_with_fact(self):
        more = self.sheet.with_fact("b", "a", 1)
        self.assertEqual(more.facts, (("a", "b", 2), ("b", "zero", 5), ("b", "a", 1)))
        self.assertEqual((more.marks, more.takes, more["b", "a"]), (("a", "b"), ("a",), 1))
        again = self.sheet.with_fact("a", "b", 2)
        self.assertEqual(again.facts, (("a", "b", 2), ("b", "zero", 5), ("a", "b", 2)))

    def test_with_fact_by_name(self):
        self.assertEqual(self.sheet.with_fact(c=1, y="a", x="b").facts[2], ("b", "a", 1))

    def test_with_bad_fact(self):
        for x, y, c in (("a", "a", 1), ("c", "a", 1), ("a", "c", 1), ("a", "b", True), ("zero", "zero", 1)):
            self.fails(BadFact, self.sheet.with_fact, x, y, c, index=2)
        self.fails(BadFact, Sheet(("a",), ()).with_fact, "a", "b", 1, index=0)

    def test_with_fact_that_contradicts(self):
        ring = self.ring_of(self.sheet.with_fact, "zero", "a", -8)
        self.check_ring(ring, ("a", "b"), (*self.sheet.facts, ("zero", "a", -8)))
        self.assertEqual(self.sheet.with_fact("zero", "a", -7).least, (7, 5))

    def test_without(self):
        self.assertEqual(self.sheet.without(0).facts, (("b", "zero", 5),))
        self.assertEqual(self.sheet.without(1).facts, (("a", "b", 2),))
        self.assertIsNone(self.sheet.without(1)["b", "zero"])
        self.assertEqual((self.sheet.without(0).marks, self.sheet.without(0).takes), (("a", "b"), ("a",)))

    def test_without_leaves_out_one_of_equal_facts(self):
        sheet = Sheet(("a",), (), (("a", "zero", 1), ("a", "zero", 2), ("a", "zero", 1)))
        self.assertEqual(sheet.without(2).facts, (("a", "zero", 1), ("a", "zero", 2)))
        self.assertEqual(sheet.without(0).facts, (("a", "zero", 2), ("a", "zero", 1)))

    def test_without_what_is_not_there(self):
        for index in (2, 3, -1, -2, BIG, True, False, None, "0"):
            self.fails(BadFact, self.sheet.without, index, index=index)
        self.fails(BadFact, Sheet(("a",), ()).without, 0, index=0)

    def test_measured(self):
        sheet = self.sheet.measured("b", 3)
        self.assertEqual(sheet.facts[2:], (("b", "zero", 3), ("zero", "b", -3)))
        self.assertEqual(sheet.facts[:2], self.sheet.facts)
        self.assertEqual((sheet["b", "zero"], sheet["zero", "b"], sheet["a", "zero"]), (3, -3, 5))
        self.assertEqual((sheet.marks, sheet.takes), (("a", "b"), ("a",)))
        self.assertEqual(self.sheet.measured("b", 0).facts[2:], (("b", "zero", 0), ("zero", "b", 0)))

    def test_measured_errors(self):
        for name in ("c", "zero", "", "B"):
            self.fails(UnknownName, self.sheet.measured, name, 3, name=name)
        self.fails(UnknownName, self.sheet.measured, "zero", -3, name="zero")
        for number in (6, -1, BIG):
            ring = self.ring_of(self.sheet.measured, "b", number)
            more = (("b", "zero", number), ("zero", "b", -number))
            self.check_ring(ring, ("a", "b"), self.sheet.facts + more)


class Together(Rings):
    def test_facts_of_both(self):
        one, two, three = ("a", "b", 1), ("b", "a", 2), ("a", "zero", 9)
        first = Sheet(("a", "b"), ("b",), (one, one, two))
        second = Sheet(("a", "b"), ("b",), (three, two, three, one))
        both = first & second
        self.assertEqual(both.facts, (one, one, two, three, three))
        self.assertEqual((both.marks, both.takes), (("a", "b"), ("b",)))
        self.assertEqual((second & first).facts, (three, two, three, one))
        self.assertEqual((first.facts, second.facts), ((one, one, two), (three, two, three, one)))
        self.assertEqual((both["a", "b"], both["a", "zero"]), (1, 9))

    def test_unlike_numbers_are_unlike_facts(self):
        both = Sheet(("a",), (), (("a", "zero", 1),)) & Sheet(("a",), (), (("a", "zero", 2),))
        self.assertEqual(both.facts, (("a", "zero", 1), ("a", "zero", 2)))

    def test_unlike_marks(self):
        sheet = Sheet(("a", "b"), ("a", "b"))
        ruin = (("a", "zero", 0), ("b", "zero", 0))
        others = (
            Sheet(("b", "a"), ("a", "b"), ruin), Sheet(("a", "b"), ("b", "a"), ruin),
            Sheet(("a", "b"), ("a",), ruin), Sheet(("a", "b", "c"), ("a", "b"), ruin), Sheet((), ()))
        for other in others:
            self.fails(UnlikeMarks, lambda: sheet & other)
            self.fails(UnlikeMarks, lambda: other & sheet)
            self.fails(UnlikeMarks, sheet.within, other)
            self.fails(UnlikeMarks, other.within, sheet)
            self.assertFalse(sheet == other)
            self.assertTrue(sheet != other)

    def test_unlike_marks_ahead_of_contradiction(self):
        one = Sheet(("a",), (), (("a", "zero", 1),))
        two = Sheet(("a",), ("a",), (("zero", "a", -2),))
        self.fails(UnlikeMarks, lambda: one & two)

    def test_contradiction_of_both(self):
        one = Sheet(("a", "b"), (), (("a", "zero", 1), ("b", "a", 0)))
        two = Sheet(("a", "b"), (), (("zero", "b", -2), ("a", "b", 4)))
        ring = self.ring_of(lambda: one & two)
        self.check_ring(ring, ("a", "b"), one.facts + two.facts)

    def test_within(self):
        wide = Sheet(("a", "b"), (), (("a", "zero", 9), ("b", "a", 3)))
        tight = Sheet(("a", "b"), (), (("a", "zero", 8), ("b", "zero", 3)))
        self.assertIs(tight.within(wide), True)
        self.assertIs(wide.within(tight), False)
        self.assertIs(wide.within(wide), True)
        self.assertIs(Sheet(("a", "b"), ()).within(wide), False)
        self.assertIs(wide.within(Sheet(("a", "b"), ())), True)
        self.assertIs(tight.with_fact("b", "zero", 4).within(tight), True)

    def test_equal(self):
        one = Sheet(("a", "b"), (), (("a", "b", 1), ("b", "zero", 2)))
        two = Sheet(("a", "b"), (), (("a", "zero", 3), ("b", "zero", 2), ("a", "b", 1), ("a", "zero", 9)))
        self.assertTrue(one == two)
        self.assertFalse(one != two)
        self.assertFalse(one == one.without(0))
        self.assertTrue(one != one.without(0))
        self.assertFalse(one == one.with_fact("a", "b", 0))
        self.assertTrue(Sheet((), ()) == Sheet((), ()))

    def test_unlike_although_the_numbers_are_the_same(self):
        sheet = Sheet(("a", "b"), ("a", "b"))
        others = (Sheet(("b", "a"), ("a", "b")), Sheet(("a", "c"), ("a",)), Sheet(("a", "b"), ("b", "a")),
                  Sheet(("a", "b"), ("a",)), Sheet(("a", "b"), ()))
        for other in others:
            self.assertIs(sheet == other, False)
            self.assertIs(other == sheet, False)
            self.assertIs(sheet != other, True)

    def test_equal_to_nothing_else(self):
        class Like:
            marks, takes, facts, least = ("a",), (), (), (0,)
            bounds = Sheet(("a",), ()).bounds

            def __eq__(self, other):
                return True

        sheet = Sheet(("a",), ())
        for other in (None, 5, (), "marks: a\ntakes:\n", ("a",), [sheet], sheet.least, Like()):
            self.assertIs(sheet == other, False)
            self.assertIs(sheet != other, True)


class Tight(Rings):
    def test_all_that_is_known(self):
        sheet = Sheet(("a", "b"), (), (("b", "a", -2), ("a", "zero", 7)))
        self.assertEqual(sheet.tight(), [
            ("zero", "a", -2), ("a", "zero", 7), ("a", "b", 7), ("b", "zero", 5), ("b", "a", -2)])

    def test_order(self):
        facts = (("c", "zero", 9), ("b", "zero", 9), ("a", "zero", 9),
                 ("zero", "c", -1), ("zero", "b", -1), ("zero", "a", -1))
        found = [fact[:2] for fact in Sheet(("c", "a", "b"), (), facts).tight()]
        names = ("zero", "c", "a", "b")
        self.assertEqual(found, [(x, y) for x in names for y in names if x != y])

    def test_what_needs_no_saying(self):
        self.assertEqual(Sheet(("a", "b"), ()).tight(), [])
        self.assertEqual(Sheet(("a",), (), (("a", "zero", 0),)).tight(), [("a", "zero", 0)])
        self.assertEqual(Sheet(("a",), (), (("zero", "a", 0), ("zero", "a", 5))).tight(), [])
        self.assertEqual(Sheet(("a", "b"), (), (("a", "b", 0),)).tight(), [("a", "b", 0)])

    def test_new_each_time(self):
        sheet = Sheet(("a",), (), (("a", "zero", 1),))
        sheet.tight().clear()
        self.assertEqual(sheet.tight(), [("a", "zero", 1)])
        self.assertIsInstance(sheet.tight(), list)


if __name__ == "__main__":
    unittest.main()
