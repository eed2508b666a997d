"""[14] to [17]: shapes, ends, faults, findings and times at plain programs, and what is refused."""

import unittest

from oracles import Case
from unknowntakes.errors import BadFault, BadPlace, NoShape, UnknownName
from unknowntakes.families import Family
from unknowntakes.findings import Finding, ask, ends, shapes, times
from unknowntakes.programs import Program
from unknowntakes.sheets import Sheet

BIG = 10 ** 12
START, END = ("zero", 0), ("A", 0)


def read(*lines, tracks="v"):
    return Program.read(f"tracks: {tracks}\n" + "".join(f"{line}\n" for line in lines))


class Shapes(Case):
    def test_each_with_the_least_recording(self):
        sheet = Sheet(("A", "m"), ("A",))
        self.assertEqual(shapes(sheet, read("put v> A 0 2", "hush v> 3", "put v> A m m+1")), [
            (("sound", (("A", "3", "A"),)), (2, 0)),
            (("wrong", 0, "late"), (0, 0)),
            (("wrong", 2, "late"), (2, 2))])

    def test_ascending(self):
        sheet = Sheet(("A", "m"), ("A",))
        program = read("if most m 0", "  put w> A 0 A", "else", "  ask m 3", "  put v> A 0 1", "  hush v> 12", "end",
                       tracks="v, w")
        self.assertEqual(shapes(sheet, program), [
            (("declined", 2), (0, 4)),
            (("sound", ((), ())), (0, 0)),
            (("sound", ((), ("A",))), (1, 0)),
            (("sound", (("A", "12"), ())), (1, 1)),
            (("wrong", 3, "late"), (0, 1))])

    def test_less_is_by_sum_then_as_a_tuple(self):
        sheet = Sheet(("m", "A", "n"), ("A",), (("zero", "A", -5),))
        program = read("if most 2 m", "  hush v> 1", "else", "  if most 1 n", "    hush v> 1", "  end", "end")
        self.assertEqual(shapes(sheet, program), [
            (("sound", ((),)), (0, 5, 0)), (("sound", (("1",),)), (0, 5, 1))])

    def test_equal_sums(self):
        sheet = Sheet(("m", "n"), ())
        program = read("if most 1 m", "  hush v> 1", "else", "  if most 1 n", "    hush v> 1", "  end", "end")
        self.assertEqual(shapes(sheet, program)[1], (("sound", (("1",),)), (0, 1)))

    def test_a_program_without_edits(self):
        self.assertEqual(shapes(Sheet(("m",), (), (("zero", "m", -4),)), Program(("a", "b"))), [
            (("sound", ((), ())), (4,))])
        self.assertEqual(shapes(Sheet((), ()), read("hush v> 1")), [(("sound", (("1",),)), ())])

    def test_runs_that_join_have_another_shape(self):
        sheet = Sheet(("A", "m", "n"), ("A",))
        found = dict(shapes(sheet, read("put v> A 0 m", "put v> A n A")))
        self.assertEqual(found[("sound", (("A",),))], (1, 0, 0))
        self.assertEqual(found[("sound", (("A", "A"),))], (1, 1, 0))
        self.assertEqual(found[("sound", ((),))], (0, 0, 0))
        self.assertEqual(set(found), {
            ("sound", ((),)), ("sound", (("A",),)), ("sound", (("A", "A"),)), ("wrong", 0, "late"),
            ("wrong", 1, "backwards")})

    def test_returned_lists_are_new(self):
        sheet, program = Sheet(("m",), ()), read("hush v> 1")
        found = shapes(sheet, program)
        found.clear()
        self.assertEqual(len(shapes(sheet, program)), 1)


class Ends(Case):
    SHEET = Sheet(("A", "m", "n"), ("A",), (("m", "n", -1), ("n", "A", 0), ("m", "zero", 7)))
    PROGRAM = read("put v> A m+1 n", "hush v> 5", "put v> A n A", "hush w> 9", tracks="v, w")

    def test_ends(self):
        shape = ("sound", (("A", "5", "A"), ("9",)))
        self.assertEqual(ends(self.SHEET, self.PROGRAM, shape), (
            ((1, 8, 2, None), (0, 0, 5, 5), (2, None, 3, None)), ((0, 0, 9, 9),)))

    def test_ends_over_all_recordings_of_the_shape(self):
        shape = ("sound", (("5", "A"), ("9",)))
        self.assertEqual(ends(self.SHEET, self.PROGRAM, shape), (((0, 0, 5, 5), (1, 8, 2, None)), ((0, 0, 9, 9),)))

    def test_upper_ends(self):
        sheet = Sheet(("A", "m"), ("A",), (("m", "A", 0), ("A", "zero", BIG), ("zero", "m", -BIG + 9)))
        self.assertEqual(ends(sheet, read("put v> A m A"), ("sound", (("A",),))),
                         (((BIG - 9, BIG - 1, BIG - 8, BIG),),))

    def test_the_greater_of_two_places_is_where_a_run_begins(self):
        sheet = Sheet(("A", "m", "n"), ("A",), (("m", "zero", 7), ("n", "zero", 4), ("zero", "A", -30)))
        program = read("put v> A m A", "drop A 0 n+2")
        self.assertEqual(ends(sheet, program, ("sound", (("A",),))), (((2, 7, 30, None),),))

    def test_the_lesser_of_two_places_is_where_a_run_ends(self):
        facts = (("m", "zero", 9), ("n", "zero", 7), ("zero", "m", -3), ("zero", "n", -2), ("zero", "A", -30))
        program = read("put v> A 0 m", "drop A n A")
        for sheet in (Sheet(("A", "m", "n"), ("A",), facts), Sheet(("A", "m", "n"), ("A",), facts[1:])):
            self.assertEqual(ends(sheet, program, ("sound", (("A",),))), (((0, 0, 2, 7),),))

    def test_over_both_branches_of_an_if(self):
        sheet = Sheet(("A", "m"), ("A",), (("A", "zero", 30), ("zero", "A", -20), ("m", "A", -6)))
        for test in ("if most m 3", "if most 4 m"):
            one, two = ("put v> A m+5 A-3", "put v> A m-4 A")[::1 if test == "if most m 3" else -1]
            program = read(test, f"  {one}", "else", f"  {two}", "end")
            self.assertEqual(ends(sheet, program, ("sound", (("A",),))), (((0, 20, 17, 30),),))

    def test_nothing_heard(self):
        sheet = Sheet(("m",), ())
        self.assertEqual(ends(sheet, Program(("a", "b")), ("sound", ((), ()))), ((), ()))

    def test_no_shape(self):
        program = self.PROGRAM
        for shape in ((), ("sound",), ("sound", ()), ("sound", ((), ())), ("sound", (("A", "A", "5"), ("9",))),
                      ("sound", (("A", "5", "A"), ("8",))), ("sound", (("A", "5", "A"), (9,))),
                      ("sound", [["A", "5", "A"], ["9"]]), ("sound", (("A", 5, "A"), ("9",))),
                      ("wrong", 0, "late"), ("wrong", 0, "backwards"), ("wrong", 2, "late"), ("declined", 0), (None,),
                      (1, 2, 3), ("sound", None), (("A", "5", "A"), ("9",))):
            self.fails(NoShape, ends, self.SHEET, program, shape)

    def test_a_wrong_that_comes_about_is_no_shape_of_a_sound(self):
        sheet = Sheet(("A", "m"), ("A",))
        program = read("put v> A 0 m", "ask m 3")
        self.assertIn(("wrong", 0, "late"), dict(shapes(sheet, program)))
        self.fails(NoShape, ends, sheet, program, ("wrong", 0, "late"))
        self.fails(NoShape, ends, sheet, program, ("declined", 1))


class Asking(Case):
    SHEET = Sheet(("A", "m", "n"), ("A",), (("m", "n", 0), ("n", "A", 0)))

    def states(self, program, *faults, sheet=None):
        finding = ask(sheet or self.SHEET, program, *faults)
        self.assertIs(bool(finding), finding.state == "sure")
        self.assertFalse(finding.bad & finding.good)
        self.assertTrue(finding.bad | finding.good == Family(sheet or self.SHEET))
        self.assertEqual((finding.least_bad, finding.least_good), (finding.bad.least, finding.good.least))
        return finding.state, finding.least_bad, finding.least_good

    def test_wrong(self):
        program = read("put v> A m+1 n", "put v> A n n+1")
        self.assertEqual(self.states(program, ("wrong",)), ("open", (0, 0, 0), (2, 0, 1)))
        self.assertEqual(self.states(program, ("wrong", 0)), ("open", (0, 0, 0), (1, 0, 1)))
        self.assertEqual(self.states(program, ("wrong", 1)), ("open", (1, 0, 1), (0, 0, 0)))
        self.assertEqual(self.states(read("put v> A m n"), ("wrong",)), ("sure", None, (0, 0, 0)))
        self.assertEqual(self.states(read("put v> A m-1 0"), ("wrong",)), ("open", (0, 0, 0), (1, 1, 1)))
        self.assertEqual(self.states(read("hush p 1"), ("wrong",)), ("never", (0, 0, 0), None))

    def test_declined(self):
        program = read("ask m 3", "put v> A 0 99")
        self.assertEqual(self.states(program, ("declined",)), ("open", (4, 4, 4), (0, 0, 0)))
        self.assertEqual(self.states(program, ("wrong",)), ("open", (0, 0, 0), (4, 4, 4)))
        self.assertEqual(self.states(program, ("wrong",), ("declined",)), ("open", (0, 0, 0), (99, 0, 0)))

    def test_twice(self):
        program = read("put v> A 0 n", "put w> A m A", tracks="v, w")
        self.assertEqual(self.states(program, ("twice", "A", START, END)), ("open", (1, 0, 1), (0, 0, 0)))
        self.assertEqual(self.states(program, ("twice", "A", START, ("m", 0))), ("sure", None, (0, 0, 0)))
        self.assertEqual(self.states(program, ("twice", "A", ("m", 5), ("n", -5))), ("open", (11, 0, 11), (0, 0, 0)))
        self.assertEqual(self.states(program, ("twice", "A", ("n", 0), ("m", 0))), ("sure", None, (0, 0, 0)))

    def test_twice_on_one_track(self):
        program = read("put v> A 0 n", "put v> A 0 n")
        self.assertEqual(self.states(program, ("twice", "A", START, END)), ("open", (1, 0, 1), (0, 0, 0)))

    def test_missing(self):
        program = read("put v> A 0 m", "put w> A n A", tracks="v, w")
        self.assertEqual(self.states(program, ("missing", "A", START, END)), ("open", (1, 0, 1), (0, 0, 0)))
        self.assertEqual(self.states(program, ("missing", "A", START, ("m", 0))), ("sure", None, (0, 0, 0)))
        self.assertEqual(self.states(program, ("missing", "A", ("n", 0), END)), ("sure", None, (0, 0, 0)))

    def test_moments_of_the_take_alone(self):
        program = read("put v> A 0 A")
        for P, Q in ((("zero", -BIG), ("A", BIG)), (("zero", -5), START), (END, ("A", 9))):
            self.assertEqual(self.states(program, ("missing", "A", P, Q)), ("sure", None, (0, 0, 0)))
            self.assertEqual(self.states(program, ("twice", "A", P, Q)), ("sure", None, (0, 0, 0)))
        self.assertEqual(self.states(Program(("v",)), ("missing", "A", ("zero", -5), START)), ("sure", None, (0, 0, 0)))
        self.assertEqual(self.states(Program(("v",)), ("missing", "A", ("zero", -5), ("zero", 1))),
                         ("open", (1, 0, 0), (0, 0, 0)))

    def test_heard(self):
        program = read("put v> A 0 A", "drop A m n")
        self.assertEqual(self.states(program, ("heard", "A", ("m", 0), ("n", 0))), ("sure", None, (0, 0, 0)))
        self.assertEqual(self.states(program, ("heard", "A", ("m", 0), ("n", 1))), ("open", (1, 0, 0), (0, 0, 0)))
        self.assertEqual(self.states(program, ("heard", "A", START, END)), ("open", (1, 0, 0), (0, 0, 0)))

    def test_disorder(self):
        program = read("put v> A m A", "put v> A 0 m", "put w> A 0 A", tracks="v, w")
        self.assertEqual(self.states(program, ("disorder", "v", "A")), ("open", (2, 1, 1), (0, 0, 0)))
        self.assertEqual(self.states(program, ("disorder", "w", "A")), ("sure", None, (0, 0, 0)))
        self.assertEqual(self.states(read("put v> A 0 m", "put v> A n A"), ("disorder", "v", "A")),
                         ("sure", None, (0, 0, 0)))

    def test_disorder_where_a_moment_is_heard_twice(self):
        program = read("put v> A 0 m", "hush v> 9", "put v> A m-1 m")
        self.assertEqual(self.states(program, ("disorder", "v", "A"), sheet=self.SHEET.with_fact("zero", "m", -1)),
                         ("never", (1, 1, 1), None))

    def test_blip(self):
        program = read("put v> A 0 m", "put v> A m n")
        self.assertEqual(self.states(program, ("blip", 1)), ("sure", None, (0, 0, 0)))
        self.assertEqual(self.states(program, ("blip", 3)), ("open", (1, 0, 1), (0, 0, 0)))
        self.assertEqual(self.states(program, ("blip", 3), sheet=self.SHEET.with_fact("zero", "n", -3)),
                         ("sure", None, (3, 0, 3)))
        self.assertEqual(self.states(read("put v> A 0 m", "hush v> 1", "put v> A m n"), ("blip", 3),
                                     sheet=self.SHEET.with_fact("zero", "n", -3)), ("open", (3, 1, 3), (3, 0, 3)))

    def test_hush_is_no_blip(self):
        self.assertEqual(self.states(read("hush v> 1"), ("blip", 9)), ("sure", None, (0, 0, 0)))

    def test_faults_of_sounds_at_sounds_alone(self):
        program = read("put v> A 0 n", "put v> A 0 n", "put v> A m m+3")
        faults = [("twice", "A", START, END), ("missing", "A", START, END), ("heard", "A", START, END),
                  ("disorder", "v", "A"), ("blip", 9)]
        for fault in faults:
            finding = ask(self.SHEET, program, fault)
            self.assertFalse((2, 0, 1) in finding.bad)
            self.assertTrue((2, 0, 1) in finding.good)
            self.assertEqual(ask(self.SHEET, read("hush p 0"), fault).state, "sure")
        self.assertTrue((3, 0, 1) in ask(self.SHEET, program, faults[0]).bad)

    def test_one_of_several_faults_is_enough(self):
        program = read("put v> A m n")
        one, two = ("blip", 3), ("missing", "A", START, ("zero", 1))
        finding = ask(self.SHEET, program, one, two)
        both = ask(self.SHEET, program, one).bad | ask(self.SHEET, program, two).bad
        self.assertTrue(finding.bad == both)
        self.assertTrue(ask(self.SHEET, program, two, one, one).bad == both)

    def test_large_numbers(self):
        sheet = Sheet(("A", "m"), ("A",), (("m", "A", -BIG), ("zero", "m", -5)))
        program = read(f"put v> A m m+{BIG + 2}")
        self.assertEqual(self.states(program, ("wrong",), sheet=sheet), ("open", (BIG + 5, 5), (BIG + 7, 5)))

    def test_bad_faults(self):
        program = read("hush v> 1", "if most m n", "  hush v> 1", "end")
        good = ("blip", 1)
        bad = (
            (), ("",), ("wrongs",), (None,), (["wrong"],), ("wrong", 3), ("wrong", -1), ("wrong", True), ("wrong", None),
            ("wrong", "0"), ("wrong", 0, 1), ("declined", 0), ("twice",), ("twice", "A"), ("twice", "A", START),
            ("twice", "A", START, END, END), ("twice", "m", START, END), ("twice", "B", START, END),
            ("twice", "zero", START, END), ("twice", ["A"], START, END), ("twice", 3, START, END),
            ("twice", "A", ("x", 0), END), ("twice", "A", START, ("x", 0)), ("twice", "A", "m", END),
            ("twice", "A", START, ("m", True)), ("twice", "A", START, ("m",)), ("twice", "A", START, ["m", 0]),
            ("twice", "A", START, 3), ("missing", "m", START, END), ("missing", "A", START, ("A", "0")),
            ("missing", "A", START), ("heard", "v", START, END), ("heard", "A", START, ("v", 0)), ("heard", "A", END),
            ("disorder", "v"), ("disorder", "w", "A"), ("disorder", "A", "v"), ("disorder", "v", "m"),
            ("disorder", "v", "A", 1), ("disorder", "v>", "A"), ("disorder", None, "A"), ("blip",), ("blip", 0),
            ("blip", -1), ("blip", True), ("blip", "1"), ("blip", None), ("blip", 1, 1), ("twice", None, None, None))
        for fault in bad:
            self.fails(BadFault, ask, self.SHEET, program, fault, index=0)
            self.fails(BadFault, ask, self.SHEET, program, good, ("wrong", 2), fault, (), index=2)
        self.fails(BadFault, ask, self.SHEET, program, index=0)

    def test_order_of_errors(self):
        program = read("put v> x y 0")
        self.fails(UnknownName, ask, self.SHEET, program, name="x")
        self.fails(UnknownName, ask, self.SHEET, program, (), name="x")
        self.fails(UnknownName, shapes, self.SHEET, program, name="x")
        self.fails(UnknownName, ends, self.SHEET, program, (), name="x")
        self.fails(UnknownName, times, self.SHEET, program, "y", 0, 0, name="x")


class Findings(Case):
    def test_made_by_hand(self):
        none, some = Family(), Family(Sheet(("m",), (), (("zero", "m", -2),)))
        for bad, good, state in ((none, some, "sure"), (some, none, "never"), (some, some, "open"), (none, none, "sure")):
            finding = Finding(bad, good)
            self.assertIs(finding.bad, bad)
            self.assertIs(finding.good, good)
            self.assertEqual((finding.state, bool(finding)), (state, state == "sure"))
            self.assertEqual(finding.least_bad, (2,) if bad else None)
            self.assertEqual(finding.least_good, (2,) if good else None)

    def test_arguments_by_name(self):
        finding = Finding(good=Family(Sheet((), ())), bad=Family())
        self.assertEqual((finding.state, finding.least_good), ("sure", ()))

    def test_a_sheet_without_marks(self):
        finding = ask(Sheet((), ()), read("hush p 1"), ("wrong",))
        self.assertEqual((finding.state, finding.least_bad), ("never", ()))

    def test_families_of_the_sheet(self):
        sheet = Sheet(("A", "m"), ("A",), (("m", "A", 3),))
        finding = ask(sheet, read("put v> A 0 m"), ("wrong",))
        for family in (finding.bad, finding.good):
            self.assertIsInstance(family, Family)
            for part in family.parts:
                self.assertEqual((part.marks, part.takes), (("A", "m"), ("A",)))
                self.assertTrue(part.within(sheet))
        self.assertTrue(Family(sheet) - finding.bad == finding.good)
        self.assertEqual(finding.good.hull["m", "A"], 0)
        self.assertEqual(finding.bad.hull["A", "m"], -1)


class Times(Case):
    SHEET = Sheet(("A", "m"), ("A",), (("m", "A", 0),))

    def test_document_example(self):
        program = read("put v> A 0 m", "put v> A m-1 A")
        self.assertEqual(times(self.SHEET, program, "A", START, END), ((1, (2, 1), 1), (2, (1, 1), 0)))

    def test_nothing_heard(self):
        self.assertEqual(times(self.SHEET, Program(("v",)), "A", START, END), ((0, (1, 0), 0), (0, (1, 0), 0)))
        self.assertEqual(times(self.SHEET, Program(("v",)), "A", ("zero", 3), END), ((0, (4, 0), 3), (0, (4, 0), 3)))

    def test_all_tracks_together(self):
        program = read("put v> A 0 A", "put w> A m A", "put w> A 0 1", tracks="v, w")
        self.assertEqual(times(self.SHEET, program, "A", START, END), ((1, (2, 2), 1), (3, (1, 0), 0)))
        self.assertEqual(times(self.SHEET, program, "A", ("zero", 1), END), ((1, (2, 2), 1), (2, (2, 0), 1)))

    def test_no_moment_in_range(self):
        program = read("put v> A 0 A")
        for P, Q in ((END, START), (START, START), (("zero", -9), START), (END, ("A", 9)), (("A", 0), ("m", 0))):
            self.assertIsNone(times(self.SHEET, program, "A", P, Q))
        self.assertIsNone(times(self.SHEET, read("hush p 1"), "A", START, END))
        self.assertIsNone(times(self.SHEET, read("ask A 0"), "A", START, END))

    def test_sounds_alone(self):
        self.assertEqual(times(self.SHEET, read("put v> A 5 A"), "A", START, END), ((0, (5, 0), 0), (1, (6, 0), 5)))

    def test_errors(self):
        program = read("put v> A 0 m")
        self.fails(UnknownName, times, self.SHEET, program, "m", 0, 0, name="m")
        self.fails(UnknownName, times, self.SHEET, program, "B", 0, 0, name="B")
        for place in (("x", 0), (), ("m",), ("m", True), ("m", 0, 0), (0, "m"), (None, 0), (["m"], 0), ("m", "0")):
            self.fails(BadPlace, times, self.SHEET, program, "A", place, (), index=1)
            self.fails(BadPlace, times, self.SHEET, program, "A", START, place, index=2)

    def test_arguments_by_name(self):
        found = times(take="A", Q=END, P=START, program=Program(("v",)), sheet=self.SHEET)
        self.assertEqual(found[0], (0, (1, 0), 0))


if __name__ == "__main__":
    unittest.main()
