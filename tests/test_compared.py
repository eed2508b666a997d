"""[21] to [23] at plain programs, and what is refused."""

import unittest

from oracles import Case
from unknowntakes.compared import clash, compare, hangs, sounding, telling_edit, thin, told
from unknowntakes.errors import BadEdit, NotRecording, UnknownName, UnlikeTracks
from unknowntakes.families import Family
from unknowntakes.findings import Finding
from unknowntakes.programs import Program
from unknowntakes.sheets import Sheet

BIG = 10 ** 12
SHEET = Sheet(("A", "m"), ("A",), (("m", "A", 0),))


def read(*lines, tracks="v"):
    return Program.read(f"tracks: {tracks}\n" + "".join(f"{line}\n" for line in lines))


class Compare(Case):
    def test_it_is_a_finding(self):
        finding = compare(SHEET, read("put v> A 0 m"), read("put v> A 0 A"))
        self.assertIs(type(finding), Finding)
        self.assertEqual((finding.state, finding.least_bad, finding.least_good), ("open", (1, 0), (0, 0)))
        self.assertTrue(finding.good == Family(SHEET.with_fact("A", "m", 0)))
        self.assertTrue(finding.bad == Family(SHEET.with_fact("m", "A", -1)))

    def test_all_wrongs_count_as_the_same(self):
        one, two = read("put v> A m 0"), read("hush v> 1", "cut p q")
        self.assertEqual(one(SHEET, (3, 2)), ("wrong", 0, "backwards"))
        self.assertEqual(two(SHEET, (3, 2)), ("wrong", 1, "unset"))
        finding = compare(SHEET, one, two, further=True)
        self.assertEqual((finding.least_good, finding.least_bad), ((1, 1), (0, 0)))
        self.assertTrue(compare(SHEET, read("cut p v>"), read("hush v> 1", "cut <v q"), further=True))

    def test_all_declined_count_as_the_same_but_not_as_wrong_or_as_a_sound(self):
        one, two, three = read("ask 1 0"), read("hush v> 1", "ask 9 3"), read("cut p q")
        self.assertEqual(compare(SHEET, one, two, further=True).state, "sure")
        self.assertEqual(compare(SHEET, one, three, further=True).state, "never")
        self.assertEqual(compare(SHEET, one, read()).state, "never")
        self.assertEqual(compare(SHEET, read("hush v> 0"), three).state, "never")

    def test_outcomes_not_programs(self):
        for one, two in ((("put v> A 0 m", "put v> A m A"), ("put v> A 0 A",)),
                         (("hush v> 2", "hush v> 3"), ("hush v> 5",)),
                         (("put v> A 0 A", "drop A 0 m"), ("put v> A m A",)),
                         (("put v> A 0 A", "only A m A"), ("put <v A m A",)),
                         (("put v> A 0 A", "if heard A m", "  hush v> 1", "else", "  hush v> 1", "end"),
                          ("put v> A 0 A", "hush v> 1")),
                         (("put w> A 0 m", "move <w w> v>", "put v> A m A"), ("put v> A 0 A", "hush w> 0"))):
            self.assertEqual(compare(SHEET, read(*one, tracks="v, w"), read(*two, tracks="v, w"), further=True).state, "sure")

    def test_runs_on_other_tracks_are_unlike(self):
        self.assertEqual(compare(SHEET, read("hush v> 1", tracks="v, w"), read("hush w> 1", tracks="v, w")).state, "never")

    def test_pins_count_further(self):
        sheet = Sheet(("A",), ("A",), (("zero", "A", -9),))
        base = read("put v> A 0 9", "pin p ahead A 3")
        for other, state in ((read("put v> A 0 9"), "never"),
                             (read("put v> A 0 9", "pin q ahead A 3"), "never"),
                             (read("put v> A 0 9", "pin p ahead A 4"), "never"),
                             (read("put v> A 0 9", "pin p behind A 2"), "sure"),
                             (base + ("nudge", "p", 1) + ("nudge", "p", -1), "sure")):
            self.assertEqual(compare(sheet, base, other).state, "sure")
            self.assertEqual(compare(sheet, base, other, further=True).state, state)
            self.assertEqual(compare(sheet, other, base, further=True).state, state)

    def test_the_order_of_pins_side_by_side(self):
        sheet = Sheet(("A", "m"), ("A",), (("zero", "A", -9), ("m", "zero", 8)))
        one = read("put v> A 0 9", "pin p ahead A 3", "pin q ahead A m")
        two = read("put v> A 0 9", "pin q ahead A m", "pin p ahead A 3")
        finding = compare(sheet, one, two, further=True)
        self.assertEqual((finding.least_bad, finding.least_good), ((9, 3), (9, 0)))
        self.assertTrue(finding.bad == Family(sheet.measured("m", 3)))

    def test_hush_and_where_it_stands(self):
        sheet = Sheet(("A", "m"), ("A",), (("m", "A", 0), ("zero", "m", -1), ("A", "m", 1), ("m", "A", -1)))
        one, two = read("put v> A 0 m", "hush v> 2", "put v> A m A"), read("put v> A 0 A", "hush v> 2")
        self.assertEqual(compare(sheet, one, two).state, "never")
        self.assertEqual(compare(sheet, one, read("put v> A 0 m", "hush v> 1", "hush v> 1", "put v> A m A")).state, "sure")

    def test_great_numbers(self):
        sheet = Sheet(("A", "m"), ("A",), (("m", "A", 0), ("zero", "m", -BIG)))
        one = read("put v> A 0 A", f"drop A m-{BIG} m")
        two = read("put v> A m A")
        finding = compare(sheet, one, two)
        self.assertEqual((finding.least_good, finding.least_bad), ((BIG, BIG), (BIG + 1, BIG + 1)))

    def test_what_is_refused(self):
        one, two = read("put v> X 0 y"), read("put v> A 0 z", tracks="v, w")
        self.fails(UnknownName, compare, SHEET, one, two, name="X")
        self.fails(UnknownName, compare, SHEET, two, one, name="z")
        self.fails(UnknownName, compare, SHEET, read("put v> A 0 y", "put v> X 0 1"), two, name="y")
        self.fails(UnknownName, compare, SHEET, read(), two, name="z")
        self.fails(UnlikeTracks, compare, SHEET, read(), read(tracks="v, w"))
        self.fails(UnlikeTracks, compare, SHEET, read(tracks="w, v"), read(tracks="v, w"))
        self.fails(UnknownName, lambda: compare(SHEET, read(), two, further=True), name="z")


class TellingEdit(Case):
    SHEET = Sheet(("A",), ("A",))
    BASE = read("put v> A 0 9", "pin p ahead A 3", "pin q ahead A 3")

    def check(self, one, two, word):
        edit = telling_edit(self.SHEET, one, two, (9,))
        self.assertEqual(edit[0], word)
        kinds = []
        for program in (one + edit, two + edit):
            outcome = program(self.SHEET, (9,))
            kinds.append(outcome if outcome[0] == "sound" else outcome[:1])
        self.assertNotEqual(*kinds)
        if word == "hush":
            self.assertTrue(0 <= edit[2] <= 60)
        return edit

    def test_alike(self):
        again = self.BASE + ("nudge", "p", 0) + ("nudge", "q", 2) + ("nudge", "q", -2)
        self.assertIsNone(telling_edit(self.SHEET, self.BASE, again, (9,)))
        self.assertIsNone(telling_edit(self.SHEET, self.BASE, again, (8,)))
        self.assertIsNone(telling_edit(self.SHEET, read("cut x y"), read("put v> A 0 99"), (8,)))
        self.assertIsNone(telling_edit(self.SHEET, read("ask 2 1"), read("hush v> 1", "ask 5 4"), (8,)))

    def test_unlike_already(self):
        for one, two in ((read("hush v> 1"), read("hush v> 2")), (read("cut x y"), read()), (read("ask 1 0"), read()),
                         (read("ask 1 0"), read("cut x y")), (read("put v> A 0 2"), read("put v> A 1 3"))):
            self.assertEqual(telling_edit(self.SHEET, one, two, (9,)), ())
            self.assertEqual(telling_edit(self.SHEET, two, one, (9,)), ())

    def test_pins_in_another_order(self):
        other = self.BASE + ("nudge", "p", 1) + ("nudge", "p", -1)
        self.assertEqual(set(self.check(self.BASE, other, "cut")[1:]), {"p", "q"})
        self.check(other, self.BASE, "cut")

    def test_a_pin_that_stands_in_one_alone(self):
        other = self.BASE + ("pin", "r", "behind", "A", ("zero", 5))
        self.assertEqual(self.check(self.BASE, other, "hush")[1], "r")
        self.check(other, self.BASE, "hush")

    def test_a_pin_on_another_track(self):
        one = read("put v> A 0 9", "hush w> 9", "pin p ahead A 0", tracks="v, w")
        two = read("put v> A 0 9", "hush w> 9", "pin p ahead A 0", "move <v p w>", "pin q ahead A 0",
                   "move <v q <w", tracks="v, w")
        self.check(one, two, "hush")
        three = read("put w> A 0 1", "pin p ahead A 0", "cut p w>", "put v> A 0 9", "hush w> 9", tracks="v, w")
        self.assertEqual(one(self.SHEET, (9,)), three(self.SHEET, (9,)))
        self.check(one, three, "hush")

    def test_a_pin_at_another_place(self):
        for lines in (("put v> A 0 9", "pin p ahead A 4"), ("put v> A 0 9", "pin p behind A 8")):
            one, two = read("put v> A 0 9", "pin p ahead A 3"), read(*lines)
            self.check(one, two, "cut")
            self.check(two, one, "cut")

    def test_a_pin_at_another_place_in_hush(self):
        # More hush at the pin is no help here: it joins what stands around it.
        head = ("put v> A 0 1", "pin p behind A 0", "hush v> 5")
        self.check(read(*head, "nudge p 2"), read(*head, "nudge p 3"), "cut")

    def test_what_is_refused(self):
        self.fails(NotRecording, telling_edit, self.SHEET, self.BASE, self.BASE, (-1,))
        self.fails(NotRecording, telling_edit, self.SHEET, self.BASE, self.BASE, (1, 2))
        self.fails(NotRecording, telling_edit, self.SHEET, self.BASE, self.BASE, (True,))
        self.fails(UnlikeTracks, telling_edit, self.SHEET, self.BASE, read(tracks="w"), (-1,))
        self.fails(UnknownName, telling_edit, self.SHEET, self.BASE, read("ask 0 m", tracks="w"), (-1,), name="m")
        self.fails(UnknownName, telling_edit, self.SHEET, read("ask 0 n"), read("ask 0 m"), (9,), name="n")


class Clash(Case):
    BASE = read("put v> A 0 A", "pin p ahead A m", tracks="v")

    def test_two_who_do_not_meet(self):
        finding = clash(SHEET, self.BASE, (("hush", "<v", 1),), (("hush", "v>", 2),))
        self.assertEqual(finding.state, "sure")
        self.assertEqual(clash(SHEET, self.BASE, (), (("hush", "v>", 2),)).state, "sure")

    def test_two_who_meet(self):
        finding = clash(SHEET, self.BASE, (("cut", "<v", "p"),), (("hush", "<v", 1),))
        # Where the pin does not stand both orders go wrong, which is no clash.
        self.assertEqual((finding.state, finding.least_good, finding.least_bad), ("open", (0, 0), (1, 0)))
        sheet = SHEET.with_fact("m", "A", -1)
        self.assertEqual(clash(sheet, self.BASE, (("cut", "<v", "p"),), (("hush", "<v", 1),)).state, "never")
        one, two = self.BASE + ("cut", "<v", "p") + ("hush", "<v", 1), self.BASE + ("hush", "<v", 1) + ("cut", "<v", "p")
        self.assertTrue(finding.bad == compare(SHEET, one, two, further=True).bad)

    def test_pins_alone(self):
        first, second = (("pin", "q", "ahead", "A", ("zero", 0)),), (("pin", "r", "ahead", "A", ("zero", 0)),)
        self.assertEqual(clash(SHEET.with_fact("m", "A", -1), self.BASE, first, second).state, "never")
        self.assertEqual(clash(SHEET.with_fact("m", "A", -1), self.BASE, first, first).state, "sure")

    def test_both_wrong_or_both_declined_is_no_clash(self):
        self.assertEqual(clash(SHEET, self.BASE, (("cut", "x", "y"),), (("hush", "v>", 2),)).state, "sure")
        self.assertEqual(clash(SHEET, read(), (("ask", ("zero", 1), ("zero", 0)),), (("hush", "v>", 2),)).state, "sure")
        finding = clash(SHEET, read(), (("ask", ("zero", 1), ("zero", 0)),), (("cut", "x", "y"),))
        self.assertEqual(finding.state, "never")

    def test_bad_edits_are_counted_in_base_first_second(self):
        test = ("if", ("most", ("m", 0), ("zero", 1)), (("hush", "v>", 1),), (("cut", "<v", "w>"),))
        good = ("hush", "v>", 1)
        self.fails(BadEdit, clash, SHEET, self.BASE, (good, test), (("hush", "v>", -1),), step=5)
        self.fails(BadEdit, clash, SHEET, self.BASE, (good,), (good, ("hush", "v>", -1)), step=4)
        self.fails(BadEdit, clash, SHEET, self.BASE, (("hush", "v>", 61),), (good, ("hush", "v>", -1)), step=2)
        self.fails(BadEdit, clash, SHEET, self.BASE, (), ((),), step=2)
        # What is bad comes ahead of names that are not there.
        self.fails(BadEdit, clash, SHEET, self.BASE, (("ask", ("x", 0), ("y", 0)),), (("hush", "v>", True),), step=3)

    def test_names(self):
        base = self.BASE + ("ask", ("x", 0), ("y", 0))
        self.fails(UnknownName, clash, SHEET, base, (("ask", ("z", 0), ("y", 0)),), (), name="x")
        first, second = (("ask", ("z", 0), ("y", 0)),), (("put", "v>", "B", ("m", 0), ("m", 0)),)
        self.fails(UnknownName, clash, SHEET, self.BASE, first, second, name="z")
        self.fails(UnknownName, clash, SHEET, self.BASE, second, first, name="B")


class Thin(Case):
    def check(self, lines, wanted, sheet=SHEET, tracks="v"):
        program = read(*lines, tracks=tracks)
        text = str(program)
        self.assertEqual(str(thin(sheet, program)), str(read(*wanted, tracks=tracks)))
        self.assertEqual(str(program), text)

    def test_steps_that_do_nothing(self):
        self.check(("put v> A 0 A", "hush v> 0", "nudge p 0"), ("nudge p 0",))
        self.check(("put v> A 0 A", "hush v> 0", "drop A m m"), ("put v> A 0 A",))
        self.check(("put v> A 0 A", "drop A 0 m", "drop A 0 m"), ("put v> A 0 A", "drop A 0 m"))
        self.check((), ())

    def test_pins_count(self):
        sheet = SHEET.with_fact("zero", "A", -1)
        self.check(("put v> A 0 A", "pin p ahead A 0"), ("put v> A 0 A", "pin p ahead A 0"), sheet)
        self.check(("put v> A 0 A", "pin p ahead A 0", "pin p ahead A 0"), ("put v> A 0 A", "pin p ahead A 0"), sheet)

    def test_the_last_one_goes_first(self):
        self.check(("hush v> 1", "hush w> 0", "cut <v v>", "hush v> 2", "cut <v v>"), (), tracks="v, w")
        # Either of the two cuts would do; the last one is left out.
        self.check(("hush v> 1", "cut <v v>", "cut <v v>", "hush v> 3"), ("hush v> 3",))
        self.check(("put v> A 0 A", "pin p ahead A 0", "hush v> 3", "cut <v v>", "cut <v v>"),
                   ("put v> A 0 A", "pin p ahead A 0", "cut <v v>"), SHEET.with_fact("zero", "A", -1))

    def test_an_if_goes_with_its_insides(self):
        self.check(("if most m A", "  hush v> 2", "else", "  hush v> 3", "end"), ("if most m A", "  hush v> 2", "end"))
        self.check(("if most m 5", "  hush v> 2", "  cut <v v>", "end", "hush v> 1"), ("hush v> 1",))
        self.check(("if most m A", "  hush v> 0", "else", "  hush v> 3", "end", "hush v> 1"), ("hush v> 1",))

    def test_steps_inside_an_if(self):
        self.check(("if most m 5", "  hush v> 2", "  drop A 0 m", "end"), ("if most m 5", "  hush v> 2", "end"))

    def test_wrongs_and_declines(self):
        self.check(("hush v> 1", "cut x y", "hush v> 2"), ("cut x y",))
        self.check(("hush v> 1", "ask 1 0", "hush v> 2"), ("ask 1 0",))
        self.check(("ask m 9", "hush v> 1"), ("ask m 9", "hush v> 1"))
        self.check(("ask m A", "hush v> 1"), ("hush v> 1",))

    def test_at_all_recordings(self):
        lines = ("put v> A 0 A", "drop A 0 m")
        self.check(lines, lines)
        self.check(lines, lines[:1], SHEET.measured("m", 0))
        self.check(lines, (), SHEET.measured("A", 0))

    def test_what_is_refused(self):
        self.fails(UnknownName, thin, SHEET, read("hush v> 0", "ask 0 x"), name="x")


class Hangs(Case):
    PROGRAM = read("put v> A 0 m", "put v> A m A")

    def test_none(self):
        self.assertIsNone(hangs(SHEET, self.PROGRAM, "m"))
        self.assertIsNone(hangs(SHEET.measured("A", 7), self.PROGRAM, "A"))

    def test_the_least_pair(self):
        self.assertEqual(hangs(SHEET, self.PROGRAM, "A"), ((0, 0), (1, 0)))
        self.assertEqual(hangs(SHEET.with_fact("zero", "A", -4), read("hush v> 1", "drop A m 2"), "m"), ((4, 0), (4, 3)))
        self.assertEqual(hangs(SHEET, read("put v> A 3 5"), "A"), ((0, 0), (5, 0)))

    def test_the_least_pair_by_the_sum_of_both(self):
        # The outcome changes at m 5 if n is 0, at m 3 if n is 1: the sum decides.
        sheet = Sheet(("m", "n"), (), (("n", "zero", 1),))
        program = read("if most n 0", "  if most m 4", "    hush v> 1", "  end", "else", "  if most m 2", "    hush v> 1",
                       "  end", "end")
        self.assertEqual(hangs(sheet, program, "m"), ((0, 0), (5, 0)))
        program = read("if most n 0", "  if most m 5", "    hush v> 1", "  end", "else", "  if most m 2", "    hush v> 1",
                       "  end", "end")
        self.assertEqual(hangs(sheet, program, "m"), ((0, 1), (3, 1)))

    def test_equal_sums_go_by_the_tuples(self):
        sheet = Sheet(("m", "n", "k"), (), (("n", "zero", 1), ("k", "zero", 1)))
        program = read("if most k 0", "  if most n 0", "  else", "    ask m 2", "  end", "else", "  if most n 0",
                       "    ask m 2", "  end", "end")
        self.assertEqual(hangs(sheet, program, "m"), ((0, 0, 1), (3, 0, 1)))

    def test_wrongs_are_the_same(self):
        program = read("put v> A m m-1", "put v> A m A+1")
        self.assertIsNone(hangs(SHEET, program, "m"))
        self.assertIsNone(hangs(SHEET, read("ask 0 m", "ask m A", "ask 1 0"), "m"))

    def test_further(self):
        sheet = SHEET.with_fact("m", "A", -1)
        program = read("put v> A 0 A", "pin p ahead A m")
        self.assertIsNone(hangs(sheet, program, "m"))
        self.assertEqual(hangs(sheet, program, "m", further=True), ((2, 0), (2, 1)))
        self.assertEqual(hangs(SHEET, program, "m"), ((1, 0), (1, 1)))

    def test_a_take_is_a_mark(self):
        sheet = Sheet(("A", "B"), ("A", "B"), (("zero", "B", -3),))
        self.assertEqual(hangs(sheet, read("put v> A 0 2"), "A"), ((0, 3), (2, 3)))
        self.assertIsNone(hangs(sheet, read("put v> A 0 2"), "B"))

    def test_great_numbers(self):
        sheet = Sheet(("A", "m"), ("A",), (("zero", "A", -3 * BIG), ("zero", "m", -BIG)))
        self.assertEqual(hangs(sheet, read(f"ask m {2 * BIG}"), "m"), ((3 * BIG, BIG), (3 * BIG, 2 * BIG + 1)))

    def test_what_is_refused(self):
        self.fails(UnknownName, hangs, SHEET, read("ask 0 x"), "y", name="x")
        self.fails(UnknownName, hangs, SHEET, self.PROGRAM, "y", name="y")
        self.fails(UnknownName, hangs, SHEET, self.PROGRAM, "zero", name="zero")


class Told(Case):
    PROGRAM = read("put v> A 0 m", "put v> A m A")

    def test_told_or_not(self):
        self.assertEqual(told(SHEET, self.PROGRAM, "m"), ((1, 0), (1, 1)))
        self.assertIsNone(told(SHEET, self.PROGRAM, "A"))
        self.assertIsNone(told(SHEET, read("put v> A 0 m", "hush v> 1", "put v> A 0 A"), "m"))
        self.assertIsNone(told(SHEET.measured("m", 4), self.PROGRAM, "m"))

    def test_only_recordings_with_a_sound_count(self):
        self.assertIsNone(told(SHEET, read("ask 1 0"), "m"))
        self.assertIsNone(told(SHEET, read("cut x y"), "m"))
        self.assertEqual(told(SHEET, read("ask 2 m"), "m"), ((2, 2), (3, 3)))

    def test_other_marks_may_differ(self):
        sheet = Sheet(("A", "m", "n"), ("A",), (("m", "n", 0), ("n", "m", 0)))
        self.assertEqual(told(sheet, read("hush v> 1"), "m"), ((0, 0, 0), (0, 1, 1)))
        self.assertEqual(told(Sheet(("A", "m"), ("A",), (("A", "m", 0), ("m", "A", 2))), read("ask 3 A"), "m"),
                         ((3, 3), (3, 4)))

    def test_what_is_heard_may_come_from_other_marks(self):
        # The run ends at m at one recording, at n at the other one.
        sheet = Sheet(("A", "m", "n"), ("A",), (("zero", "A", -9), ("A", "zero", 9), ("m", "A", 0), ("n", "A", 0)))
        program = read("if most m n", "  put v> A 0 m", "else", "  put v> A 0 n", "end")
        self.assertEqual(told(sheet, program, "m"), ((9, 0, 0), (9, 1, 0)))
        self.assertEqual(told(sheet, program, "A"), None)

    def test_the_mark_may_be_told_in_each_part_but_not_by_all(self):
        # Up to n the run ends at m+2, else at n, and then m is n+2: what is heard never is the same for other reasons.
        sheet = Sheet(("A", "m", "n"), ("A",))
        program = read("if most m n", "  put v> A 0 m+2", "else", "  ask m n+2", "  ask n+2 m", "  put v> A 0 n", "end")
        self.assertEqual(told(sheet, program, "m"), ((2, 0, 0), (2, 4, 2)))
        self.assertEqual(told(sheet, program, "n"), ((2, 0, 0), (2, 0, 1)))

    def test_the_least_pair_with_the_lesser_number_first(self):
        sheet = Sheet(("A", "m"), ("A",), (("zero", "m", -4),))
        self.assertEqual(told(sheet, read("hush v> 1"), "m"), ((0, 4), (0, 5)))
        # A lesser number of the mark goes with a greater A.
        sheet = Sheet(("A", "m"), ("A",), (("zero", "A", -3),))
        program = read("if most A 3", "  ask 5 m", "end")
        self.assertEqual(told(sheet, program, "m"), ((4, 0), (4, 1)))
        self.assertEqual(told(sheet, program, "A"), ((4, 0), (5, 0)))

    def test_great_numbers(self):
        sheet = Sheet(("A", "m"), ("A",), (("m", "A", -BIG),))
        self.assertEqual(told(sheet, read("put v> A m A"), "m"), None)
        self.assertEqual(told(sheet, read(f"put v> A 0 {BIG}"), "m"), ((BIG, 0), (BIG + 1, 1)))

    def test_what_is_refused(self):
        self.fails(UnknownName, told, SHEET, read("ask 0 x"), "y", name="x")
        self.fails(UnknownName, told, SHEET, self.PROGRAM, "y", name="y")
        self.fails(UnknownName, told, SHEET, self.PROGRAM, "zero", name="zero")


class Sounding(Case):
    PROGRAM = read("put v> A m A", "hush v> 2")

    def test_families(self):
        family = sounding(SHEET, self.PROGRAM, ((("A", 3, 8), ("", 0, 2)),))
        self.assertIs(type(family), Family)
        self.assertTrue(family == Family(SHEET.measured("A", 8).measured("m", 3)))
        self.assertTrue(sounding(SHEET, self.PROGRAM, ((("", 0, 2),),)) == Family(SHEET.with_fact("A", "m", 0)))
        self.assertTrue(sounding(SHEET, read(), ((),)) == Family(SHEET))
        # A take that is heard has that length at least; the mark may lie anywhere behind it.
        family = sounding(SHEET, read("put v> A 0 A", "drop A m m+4"), ((("A", 0, 2),),))
        self.assertEqual(sorted(row for row in [(a, m) for a in range(9) for m in range(a + 1)] if row in family),
                         [(2, 2), (3, 2), (4, 2), (5, 2), (6, 2)])

    def test_none(self):
        for tracks in (((("A", 8, 3), ("", 0, 2)),), ((("A", 3, 8),),), ((("A", 3, 8), ("", 0, 3)),),
                       ((("A", 3, 5), ("A", 5, 8), ("", 0, 2)),), ((("A", 3, 8), ("", 0, 1), ("", 0, 1)),),
                       ((("A", 3, 3), ("", 0, 2)),), ((("", 0, 0), ("A", 3, 8), ("", 0, 2)),),
                       ((("B", 3, 8), ("", 0, 2)),), ((("A", 3, 8), ("pin", "p"), ("", 0, 2)),)):
            self.assertFalse(sounding(SHEET, self.PROGRAM, tracks))

    def test_any_tuple(self):
        run = ("A", 3, 8)
        for tracks in ((), ((), ()), (None,), (7, 8), ("A",), ([run, ("", 0, 2)],), ((run, ["", 0, 2]),), ((run, ()),),
                       ((("A", 3), ("", 0, 2)),), ((("A", "3", 8), ("", 0, 2)),), ((("A", True, 8), ("", 0, 2)),),
                       ((run, ("", False, 2)),), ((run, ("", 0, True)),), ((run, ("", 0, None)),), ((run, ("", 2, 0)),),
                       ((run, ("", 1, 2)),), ((run, ("", -1, 2)),), ((run, ("", 0, -2)),),
                       (((None, "p"), run),), (((None, 3, 8), ("", 0, 2)),), (((("A",), 3, 8), ("", 0, 2)),),
                       ((("A", ("m", 0), ("A", 0)), ("", 0, 2)),), ((run, ("", 0, 2)), ()), ((("A", 3, None), run),)):
            family = sounding(SHEET, self.PROGRAM, tracks)
            self.assertIs(type(family), Family)
            self.assertFalse(family, tracks)

    def test_what_is_refused(self):
        self.fails(UnknownName, sounding, SHEET, read("ask 0 x"), (), name="x")


if __name__ == "__main__":
    unittest.main()
