"""[24] to [27] at plain findings and programs, and what is refused."""

import unittest

from oracles import Case
from unknowntakes.compared import compare
from unknowntakes.errors import BadFact, BadFault, BadPlace, BadStep, NotSure, UnknownName
from unknowntakes.families import Family
from unknowntakes.findings import Finding, ask
from unknowntakes.mends import fewest, gentle, loosest, needed, safe_amounts, settles, with_asks
from unknowntakes.programs import Program
from unknowntakes.sheets import Sheet

BIG = 10 ** 12


def read(*lines, tracks="v"):
    return Program.read(f"tracks: {tracks}\n" + "".join(f"{line}\n" for line in lines))


def sheet_of(*facts, marks=("m", "n")):
    return Sheet(marks, (), facts)


def box(m, n):
    """The sheet of one recording."""
    return sheet_of(("m", "zero", m), ("zero", "m", -m), ("n", "zero", n), ("zero", "n", -n))


class Loosest(Case):
    BAD = Family(sheet_of(("m", "n", 2)), sheet_of(("m", "n", 4), ("n", "zero", 1)))
    GOOD = Family(sheet_of(("n", "m", -9)))

    def test_sure_ahead_of_all(self):
        self.assertEqual(loosest(Finding(Family(), self.GOOD), "m", "n"), ("sure",))
        self.assertEqual(loosest(Finding(Family(), self.GOOD), "zero", "n"), ("sure",))

    def test_none(self):
        self.assertEqual(loosest(Finding(self.BAD, self.GOOD), "n", "m"), ("none",))
        self.assertEqual(loosest(Finding(self.BAD, self.GOOD), "m", "zero"), ("none",))
        # One part has no greatest number, the other one has.
        self.assertEqual(loosest(Finding(Family(box(1, 2), sheet_of(("n", "m", -3))), Family()), "m", "n"), ("none",))

    def test_a_fact(self):
        self.assertEqual(loosest(Finding(self.BAD, self.GOOD), "m", "n"), ("fact", 5, (4, 0), (9, 0)))
        self.assertEqual(loosest(Finding(self.BAD, Family()), "m", "n"), ("fact", 5, (4, 0), None))

    def test_no_good_recording_is_as_far(self):
        self.assertEqual(loosest(Finding(self.GOOD, Family(sheet_of(("m", "n", 8)))), "n", "m"), ("fact", -8, (9, 0), (0, 0)))
        near = Family(sheet_of(("m", "n", 20), ("n", "m", -9)))
        self.assertEqual(loosest(Finding(near, Family(sheet_of(("m", "n", 8)))), "m", "n"), ("fact", 21, (20, 0), None))

    def test_zero_on_either_side_and_numbers_below_0(self):
        finding = Finding(Family(sheet_of(("zero", "m", -3), ("m", "zero", 7))), Family(sheet_of(("m", "zero", 2))))
        self.assertEqual(loosest(finding, "zero", "m"), ("fact", -2, (3, 0), (0, 0)))
        self.assertEqual(loosest(finding, "m", "zero"), ("fact", 8, (7, 0), None))
        finding = Finding(Family(box(0, 5)), Family(box(4, 5)))
        self.assertEqual(loosest(finding, "m", "n"), ("fact", -4, (0, 5), (4, 5)))

    def test_bad_at_g_less_1_exactly_good_at_g_or_above(self):
        finding = Finding(Family(box(1, 0), box(3, 0), box(6, 3)), Family(box(0, 0), box(5, 0), box(9, 1)))
        self.assertEqual(loosest(finding, "m", "n"), ("fact", 4, (3, 0), (5, 0)))

    def test_the_least_by_sum_then_as_a_tuple(self):
        bad = Family(box(5, 2), box(4, 1), box(9, 6))
        good = Family(Sheet(("m", "n"), (), (("m", "zero", 11), ("zero", "m", -11))), box(9, 2), box(10, 1))
        self.assertEqual(loosest(Finding(bad, good), "m", "n"), ("fact", 4, (4, 1), (9, 2)))

    def test_great_numbers(self):
        finding = Finding(Family(sheet_of(("m", "n", -BIG))), Family(sheet_of(("n", "m", BIG - 1))))
        self.assertEqual(loosest(finding, "m", "n"), ("fact", 1 - BIG, (0, BIG), (0, 0)))

    def test_what_is_refused(self):
        finding = Finding(Family(), self.GOOD)
        self.fails(UnknownName, loosest, finding, "x", "y", name="x")
        self.fails(UnknownName, loosest, finding, "m", "y", name="y")
        self.fails(UnknownName, loosest, finding, "m", "m", name="m")
        self.fails(UnknownName, loosest, finding, "zero", "zero", name="zero")
        self.fails(UnknownName, loosest, Finding(self.BAD, Family()), "x", "x", name="x")


class Needed(Case):
    SHEET = Sheet(("A", "m"), ("A",), (("m", "A", 0), ("A", "zero", 9), ("m", "A", 4), ("zero", "m", 3)))
    PROGRAM = read("put v> A 0 m")

    def test_facts_are_left_out_from_the_last_to_the_first(self):
        self.assertEqual(needed(self.SHEET, self.PROGRAM, ("wrong",)), [("m", "A", 0)])
        # The second fact alone would do, as the first one would: the last one goes.
        twice = Sheet(("A", "m"), ("A",), (("m", "A", 0), ("m", "A", -1)))
        self.assertEqual(needed(twice, self.PROGRAM, ("wrong",)), [("m", "A", 0)])
        again = Sheet(("A", "m"), ("A",), (("m", "A", 0), ("m", "A", 0)))
        self.assertEqual(needed(again, self.PROGRAM, ("wrong",)), [("m", "A", 0)])

    def test_without_those_left_out_already(self):
        sheet = Sheet(("A", "m", "n"), ("A",), (("m", "n", 0), ("n", "A", 0), ("m", "A", 0)))
        self.assertEqual(needed(sheet, self.PROGRAM, ("wrong",)), [("m", "n", 0), ("n", "A", 0)])
        turned = Sheet(("A", "m", "n"), ("A",), (("m", "A", 0), ("m", "n", 0), ("n", "A", 0)))
        self.assertEqual(needed(turned, self.PROGRAM, ("wrong",)), [("m", "A", 0)])

    def test_none_is_needed(self):
        self.assertEqual(needed(self.SHEET, read("hush v> 1"), ("wrong",)), [])
        self.assertEqual(needed(Sheet((), ()), read("hush v> 1"), ("wrong",)), [])

    def test_several_faults(self):
        sheet = self.SHEET.with_fact("zero", "m", -2)
        self.assertEqual(needed(sheet, self.PROGRAM, ("blip", 2), ("wrong",)), [("m", "A", 0), ("zero", "m", -2)])

    def test_the_list_is_new(self):
        needed(self.SHEET, self.PROGRAM, ("wrong",)).clear()
        self.assertEqual(len(self.SHEET.facts), 4)

    def test_what_is_refused(self):
        self.fails(NotSure, needed, self.SHEET, read("put v> A 3 m"), ("wrong",), recording=(0, 0))
        self.fails(NotSure, needed, self.SHEET, self.PROGRAM, ("blip", 3), recording=(1, 1))
        self.fails(BadFault, needed, self.SHEET, self.PROGRAM, index=0)
        self.fails(BadFault, needed, self.SHEET, read("put v> A 3 m"), ("wrong",), ("wrong", 7), index=1)
        self.fails(UnknownName, needed, self.SHEET, read("ask x y"), ("wrong", 7), name="x")


class Gentle(Case):
    def test_nothing(self):
        self.assertEqual(gentle(Finding(Family(box(1, 2)), Family())), ("nothing",))

    def test_no_bad_recording(self):
        self.assertEqual(gentle(Finding(Family(), Family(box(1, 2)))), ("facts", []))

    def test_needless_facts_go_from_the_last_to_the_first(self):
        finding = Finding(Family(box(9, 9)), Family(box(1, 1), box(2, 3)))
        # The hull's facts in order: zero-m, zero-n, m-zero, m-n, n-zero, n-m.
        self.assertEqual(finding.good.hull.tight(), [("zero", "m", -1), ("zero", "n", -1), ("m", "zero", 2), ("m", "n", 0),
                                                     ("n", "zero", 3), ("n", "m", 1)])
        self.assertEqual(gentle(finding), ("facts", [("m", "zero", 2)]))
        finding = Finding(Family(box(9, 9), box(0, 0), box(2, 0)), Family(box(1, 1), box(2, 3)))
        self.assertEqual(gentle(finding), ("facts", [("zero", "n", -1), ("m", "zero", 2)]))

    def test_marks_are_0_or_greater(self):
        finding = Finding(Family(sheet_of(("zero", "n", -1))), Family(sheet_of(("n", "zero", 0))))
        self.assertEqual(gentle(finding), ("facts", [("n", "zero", 0)]))
        # ("m", "n", -1) with ("n", "zero", 0) can't be kept by marks that are 0 or greater.
        finding = Finding(Family(box(0, 1)), Family(sheet_of(("n", "m", 0))))
        self.assertEqual(gentle(finding), ("facts", [("n", "m", 0)]))

    def test_a_fact_that_only_the_others_make_needless_stays(self):
        finding = Finding(Family(box(3, 0)), Family(box(0, 0), box(2, 2)))
        self.assertEqual(gentle(finding), ("facts", [("m", "zero", 2)]))

    def test_inside(self):
        finding = Finding(Family(box(2, 2), box(1, 1)), Family(box(0, 0), box(3, 3), box(4, 4)))
        self.assertEqual(gentle(finding), ("inside", (1, 1), [
            ("zero", "m", (0, 0)), ("zero", "n", (0, 0)), ("m", "zero", (3, 3)), ("m", "n", (0, 0)),
            ("n", "zero", (3, 3)), ("n", "m", (0, 0))]))

    def test_inside_with_a_good_recording_for_each_pair(self):
        finding = Finding(Family(box(2, 2)), Family(box(4, 1), box(1, 4)))
        self.assertEqual(gentle(finding), ("inside", (2, 2), [
            ("zero", "m", (1, 4)), ("zero", "n", (4, 1)), ("m", "zero", (4, 1)), ("m", "n", (4, 1)),
            ("n", "zero", (1, 4)), ("n", "m", (1, 4))]))

    def test_the_least_bad_recording_in_the_hull(self):
        finding = Finding(Family(box(0, 0), box(5, 5), box(4, 5)), Family(box(1, 1), box(7, 9)))
        self.assertEqual(gentle(finding)[:2], ("inside", (4, 5)))

    def test_no_ends(self):
        finding = Finding(Family(sheet_of(("m", "n", -1))), Family(sheet_of(("n", "m", 0))))
        self.assertEqual(gentle(finding), ("facts", [("n", "m", 0)]))
        finding = Finding(Family(sheet_of(("m", "n", 0), ("n", "m", 0), ("zero", "m", -BIG))),
                          Family(sheet_of(("m", "n", -1)), sheet_of(("n", "m", -1))))
        self.assertEqual(gentle(finding)[:2], ("inside", (BIG, BIG)))
        self.assertEqual(gentle(finding)[2][2:4], [("m", "zero", (BIG, 0)), ("m", "n", (1, 0))])

    def test_the_list_is_new(self):
        finding = Finding(Family(box(9, 9)), Family(box(1, 1)))
        gentle(finding)[1].clear()
        self.assertEqual(len(gentle(finding)[1]), 1)


class WithAsks(Case):
    def test_asks_ahead_of_the_edits_in_order(self):
        program = read("hush v> 1", tracks="v, w")
        facts = [("m", "n", 3), ("zero", "x", -2), ("y", "zero", 0)]
        self.assertEqual(str(with_asks(program, facts)),
                         "tracks: v, w\nask m n+3\nask 0 x-2\nask y 0\nhush v> 1\n")
        self.assertEqual(with_asks(program, facts).edits[1], ("ask", ("zero", 0), ("x", -2)))
        self.assertEqual(with_asks(program, []), program)
        self.assertEqual(len(facts), 3)

    def test_what_the_facts_say(self):
        sheet = Sheet(("m", "n"), ())
        program = with_asks(read(), [("m", "n", 3), ("zero", "n", -2)])
        self.assertEqual([program(sheet, row) for row in ((5, 2), (6, 2), (4, 1))],
                         [("sound", ((),)), ("declined", 0), ("declined", 1)])

    def test_what_is_refused(self):
        good = ("m", "n", 0)
        for bad in ((), ("m",), ("m", "n"), ("m", "n", 0, 0), ("m", "m", 0), ("zero", "zero", 0), ("m", "n", True),
                    ("m", "n", "0"), ("m", "n", None), ("m ", "n", 0), ("", "n", 0), ("m", "n1", 0), ("m", "toolongxx", 0),
                    (1, "n", 0), ("m", None, 0), (("m",), "n", 0), ("m", ["n"], 0), ("<v", "n", 0)):
            self.fails(BadFact, with_asks, read(), [good, bad, ()], index=1)
            self.fails(BadFact, with_asks, read(), [bad], index=0)


class SafeAmounts(Case):
    SHEET = Sheet(("A", "m"), ("A",), (("m", "A", -4), ("zero", "m", -2)))

    def test_ranges(self):
        program = read("put v> A m m")
        self.assertEqual(safe_amounts(self.SHEET, program, 0, 1, ("wrong",)), [(-2, 0)])
        self.assertEqual(safe_amounts(self.SHEET, program, 0, 2, ("wrong",)), [(0, 4)])

    def test_open_ends(self):
        self.assertEqual(safe_amounts(self.SHEET, read("ask m m"), 0, 2, ("declined",)), [(0, None)])
        self.assertEqual(safe_amounts(self.SHEET, read("ask m m"), 0, 1, ("declined",)), [(None, 0)])
        self.assertEqual(safe_amounts(self.SHEET, read("ask m m"), 0, 1, ("wrong",)), [(None, None)])

    def test_none(self):
        self.assertEqual(safe_amounts(self.SHEET, read("ask m m", "cut x y"), 0, 1, ("wrong",), ("declined",)), [])
        self.assertEqual(safe_amounts(self.SHEET, read("put v> A 0 m-3"), 0, 2, ("wrong",), ("blip", 9)), [])

    def test_several_ranges(self):
        sheet = Sheet(("A",), ("A",), (("zero", "A", -20),))
        # What is put once more is dropped, from 10 up to before 15.
        program = read("put v> A 0 20", "put v> A 10 10", "drop A 10 15")
        self.assertEqual(safe_amounts(sheet, program, 1, 2, ("wrong",), ("twice", "A", ("zero", 0), ("A", 0))), [(10, 15)])
        program = read("put v> A 0 20", "drop A 3 8", "if heard A 0", "  cut x y", "end")
        self.assertEqual(safe_amounts(sheet, program, 2, 1, ("wrong",)), [(None, -1), (3, 7), (20, None)])

    def test_ranges_never_touch(self):
        # Ranges of safe amounts side by side are one, and so are unsafe ones.
        sheet = Sheet(("A",), ("A",), (("zero", "A", -20),))
        program = read("if most 0 5", "  if most 0 3", "    hush v> 1", "  end", "end")
        for step in (0, 1):
            self.assertEqual(safe_amounts(sheet, program, step, 1, ("wrong",)), [(None, None)])
        program = read("put v> A 0 20", "drop A 0 5", "only A 6 20", "if heard A 0", "  ask 1 0", "end")
        self.assertEqual(safe_amounts(sheet, program, 3, 1, ("declined",)), [(None, 5), (20, None)])
        program = read("put v> A 0 5", "put v> A 5 9", "if heard A 0", "  ask 1 0", "end")
        self.assertEqual(safe_amounts(sheet, program, 2, 1, ("declined",)), [(None, -1), (9, None)])
        program = read("put v> A 0 5", "put v> A 6 9", "if heard A 0", "  ask 1 0", "end")
        self.assertEqual(safe_amounts(sheet, program, 2, 1, ("declined",)), [(None, -1), (5, 5), (9, None)])

    def test_the_place_of_an_if_is_that_of_its_test(self):
        program = read("if most m 9", "  put v> A m 0", "else", "  ask 1 0", "end")
        self.assertEqual(safe_amounts(self.SHEET, program, 0, 2, ("declined",)), [])
        self.assertEqual(safe_amounts(self.SHEET, program, 0, 1, ("wrong",)), [(8, None)])
        sheet = self.SHEET.with_fact("m", "zero", 30)
        self.assertEqual(safe_amounts(sheet, program, 0, 2, ("declined",)), [(30, None)])
        self.assertEqual(safe_amounts(sheet, program, 0, 1, ("wrong",)), [(8, None)])

    def test_steps_inside_ifs(self):
        program = read("if most m 9", "  put v> A 0 m", "else", "  put v> A m m+9", "end")
        self.assertEqual(safe_amounts(self.SHEET, program, 2, 2, ("wrong", 2)), [(0, 4)])
        self.assertEqual(safe_amounts(self.SHEET, program, 1, 2, ("wrong", 1)), [(-2, 4)])
        self.assertEqual(safe_amounts(self.SHEET, program, 1, 1, ("wrong", 1)), [(0, 2)])

    def test_faults_of_all_kinds(self):
        sheet = Sheet(("A",), ("A",), (("zero", "A", -20),))
        program = read("put v> A 2 9", "put v> A 12 15")
        for fault, ranges in ((("twice", "A", ("zero", 0), ("A", 0)), [(None, 8), (9, None)]),
                              (("missing", "A", ("zero", 2), ("zero", 15)), [(None, 12)]),
                              (("heard", "A", ("zero", 10), ("zero", 13)), [(13, None)]),
                              (("disorder", "v", "A"), [(None, -1), (9, None)]),
                              (("blip", 5), [(None, 10), (15, None)]),
                              (("declined",), [(None, None)]), (("wrong", 0), [(None, None)]),
                              (("wrong", 1), [(0, 15)])):
            found = safe_amounts(sheet, program, 1, 1, fault)
            for amount in range(-30, 30):
                safe = any((low is None or low <= amount) and (high is None or amount <= high) for low, high in found)
                self.assertIs(safe, bool(ask(sheet, program.with_amount(1, 1, amount), fault)), (fault, amount, found))

    def test_great_numbers(self):
        sheet = Sheet(("A", "m"), ("A",), (("zero", "A", -BIG), ("m", "zero", BIG - 7)))
        self.assertEqual(safe_amounts(sheet, read("put v> A 0 m"), 0, 2, ("wrong",)), [(0, 7)])
        self.assertEqual(safe_amounts(sheet, read("put v> A 0 0"), 0, 2, ("wrong",)), [(0, BIG)])

    def test_the_list_is_new_and_the_program_as_it_was(self):
        program = read("put v> A m m+1")
        safe_amounts(self.SHEET, program, 0, 2, ("wrong",)).clear()
        self.assertEqual(safe_amounts(self.SHEET, program, 0, 2, ("wrong",)), [(0, 4)])
        self.assertEqual(str(program), "tracks: v\nput v> A m m+1\n")

    def test_what_is_refused(self):
        program = read("put v> A m m", "hush v> 1", "if heard A m", "  ask 1 2", "end")
        for step in (-1, 4, True, None, "0"):
            self.fails(BadStep, safe_amounts, self.SHEET, program, step, 9, ("x",), step=step)
        for step, which in ((0, 3), (0, 0), (0, -1), (1, 1), (2, 2), (3, 3)):
            self.fails(BadPlace, safe_amounts, self.SHEET, program, step, which, ("x",), index=which)
        self.fails(BadFault, safe_amounts, self.SHEET, program, 0, 1, index=0)
        self.fails(BadFault, safe_amounts, self.SHEET, program, 2, 1, ("wrong",), ("x",), index=1)
        self.fails(UnknownName, safe_amounts, self.SHEET, read("ask x 0"), 7, 9, ("x",), name="x")


class Settles(Case):
    FINDING = Finding(Family(box(1, 5), box(2, 5)), Family(box(1, 7), box(4, 5), box(3, 0)))

    def test_settled_or_not(self):
        self.assertEqual(settles(self.FINDING, "m"), ((1, 5), (1, 7)))
        self.assertEqual(settles(self.FINDING, "n"), ((1, 5), (4, 5)))
        self.assertIsNone(settles(self.FINDING, "m", "n"))
        self.assertIsNone(settles(self.FINDING, "n", "m", "n"))

    def test_without_marks(self):
        self.assertEqual(settles(self.FINDING), ((1, 5), (3, 0)))
        self.assertIsNone(settles(Finding(Family(), self.FINDING.good)))
        self.assertIsNone(settles(Finding(self.FINDING.bad, Family())))

    def test_the_least_pair_by_the_sum_of_both_then_as_a_tuple_bad_first(self):
        finding = Finding(Family(box(0, 6), box(2, 3)), Family(box(0, 1), box(2, 5), box(5, 0)))
        self.assertEqual(settles(finding, "m"), ((0, 6), (0, 1)))
        finding = Finding(Family(box(0, 6), box(2, 1)), Family(box(0, 3), box(2, 4)))
        self.assertEqual(settles(finding, "m"), ((0, 6), (0, 3)))
        # The least of both families apart from one another are no pair.
        finding = Finding(Family(sheet_of(("n", "m", 0))), Family(sheet_of(("m", "n", -1), ("zero", "m", -3))))
        self.assertEqual(settles(finding, "m"), ((3, 0), (3, 4)))
        self.assertEqual(settles(finding, "n"), ((4, 4), (3, 4)))

    def test_no_ends(self):
        finding = Finding(Family(sheet_of(("m", "n", -BIG))), Family(sheet_of(("n", "m", -BIG))))
        self.assertEqual(settles(finding, "m"), ((BIG, 2 * BIG), (BIG, 0)))

    def test_what_is_refused(self):
        self.fails(UnknownName, settles, self.FINDING, "x", name="x")
        self.fails(UnknownName, settles, self.FINDING, "m", "zero", "x", name="zero")
        self.fails(UnknownName, settles, Finding(Family(), self.FINDING.good), "m", "y", name="y")


class Fewest(Case):
    def test_none(self):
        self.assertEqual(fewest(Finding(Family(), Family(box(1, 2)))), ())
        self.assertEqual(fewest(Finding(Family(box(1, 2)), Family())), ())

    def test_one_the_first_one_of_several(self):
        self.assertEqual(fewest(Finding(Family(box(1, 5)), Family(box(2, 6)))), ("m",))
        self.assertEqual(fewest(Finding(Family(box(1, 5)), Family(box(1, 6)))), ("n",))
        sheets = [Sheet(("n", "m"), (), sheet.facts) for sheet in (box(1, 5), box(2, 6))]
        self.assertEqual(fewest(Finding(Family(sheets[0]), Family(sheets[1]))), ("n",))

    def test_all(self):
        self.assertEqual(fewest(Settles.FINDING), ("m", "n"))

    def test_two_of_three_by_their_places(self):
        marks = ("c", "a", "b")

        def point(*numbers):
            facts = [fact for mark, k in zip(marks, numbers) for fact in ((mark, "zero", k), ("zero", mark, -k))]
            return Sheet(marks, (), facts)

        self.assertEqual(fewest(Finding(Family(point(0, 0, 0)), Family(point(0, 1, 1), point(1, 0, 0)))), ("c", "a"))
        self.assertEqual(fewest(Finding(Family(point(0, 0, 0)), Family(point(0, 0, 1), point(1, 1, 0)))), ("c", "b"))
        self.assertEqual(fewest(Finding(Family(point(0, 0, 0)), Family(point(0, 0, 1), point(0, 1, 0)))), ("a", "b"))

    def test_of_what_the_program_returns(self):
        sheet = Sheet(("A", "m", "n"), ("A",), (("m", "n", 0), ("n", "m", 0)))
        finding = ask(sheet, read("put v> A 0 n"), ("wrong",))
        self.assertEqual(fewest(finding), ("A", "m"))
        self.assertEqual(fewest(compare(sheet, read("put v> A 0 5"), read("put v> A 0 A"))), ("A",))


if __name__ == "__main__":
    unittest.main()
