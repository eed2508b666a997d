"""[8], [9], [12] and [13]: what edits do and how they go wrong, rows, steps that are played, cue sheets."""

import unittest

from oracles import Case
from unknowntakes.errors import NotRecording, UnknownName
from unknowntakes.playing import cue_sheet, played, standing
from unknowntakes.programs import Program
from unknowntakes.sheets import Sheet

BIG = 10 ** 12
SHEET = Sheet(("A", "B", "m"), ("A", "B"))
NUMBERS = (10, 20, 4)


class Plays(Case):
    def rows(self, lines, numbers=NUMBERS, tracks="v"):
        """The rows of standing; one row alone if there is one track."""
        program = Program.read(f"tracks: {tracks}\n" + "".join(f"{line}\n" for line in lines))
        outcome = standing(SHEET, program, numbers)
        self.assertEqual(outcome[0], "sound", outcome)
        runs = tuple(tuple(run for run in row if run[0] != "pin") for row in outcome[1])
        if not any(one[0] == "pin" for row in outcome[1] for one in row):
            self.assertEqual(program(SHEET, numbers), ("sound", runs))
        return outcome[1] if ", " in tracks else outcome[1][0]

    def ends(self, lines, outcome, numbers=NUMBERS, tracks="v"):
        program = Program.read(f"tracks: {tracks}\n" + "".join(f"{line}\n" for line in lines))
        self.assertEqual(program(SHEET, numbers), outcome)
        self.assertEqual(standing(SHEET, program, numbers), outcome)
        *_, last = played(SHEET, program, numbers)
        self.assertEqual(last, (outcome[1], "declined" if outcome[0] == "declined" else outcome[2]))


class Put(Plays):
    def test_from_one_place_up_to_before_another(self):
        self.assertEqual(self.rows(["put v> A 2 m+3"]), (("A", 2, 7),))
        self.assertEqual(self.rows(["put v> A 0 A"]), (("A", 0, 10),))
        self.assertEqual(self.rows(["put v> A B-19 2"]), (("A", 1, 2),))

    def test_nothing_at_all(self):
        self.assertEqual(self.rows(["put v> A m m", "put v> A 0 0", "put v> A A A"]), ())
        self.assertEqual(self.rows([]), ())
        self.assertEqual(self.rows([], tracks="v, w"), ((), ()))

    def test_at_fixed_pins(self):
        self.assertEqual(self.rows(["put v> A 0 1", "put v> B 0 2", "put <v A 5 8"]),
                         (("A", 5, 8), ("A", 0, 1), ("B", 0, 2)))

    def test_directly_behind_a_pin_but_directly_ahead_of_the_end(self):
        pins = ["put v> A 0 2", "pin p ahead A 0", "pin q behind A 1"]
        p, q = ("pin", "p"), ("pin", "q")
        self.assertEqual(self.rows(pins), (p, ("A", 0, 2), q))
        self.assertEqual(self.rows(pins + ["hush p 1"]), (p, ("", 0, 1), ("A", 0, 2), q))
        self.assertEqual(self.rows(pins + ["hush q 1"]), (p, ("A", 0, 2), q, ("", 0, 1)))
        self.assertEqual(self.rows(pins + ["hush <v 1"]), (("", 0, 1), p, ("A", 0, 2), q))
        self.assertEqual(self.rows(pins + ["hush v> 1"]), (p, ("A", 0, 2), q, ("", 0, 1)))

    def test_nearer_than_other_pins(self):
        sides = ["put v> A 0 2", "pin p ahead A 1", "pin q ahead A 1", "pin r behind A 0"]
        p, q, r = ("pin", "p"), ("pin", "q"), ("pin", "r")
        first, second = ("A", 0, 1), ("A", 1, 2)
        self.assertEqual(self.rows(sides), (first, r, p, q, second))
        self.assertEqual(self.rows(sides + ["hush p 1"]), (first, r, p, ("", 0, 1), q, second))
        self.assertEqual(self.rows(sides + ["hush r 1"]), (first, r, ("", 0, 1), p, q, second))

    def test_on_the_track_of_the_pin(self):
        self.assertEqual(self.rows(["put w> A 0 2", "put v> A 3 4", "pin p ahead A 1", "put p B 0 1"], tracks="v, w"),
                         ((("A", 3, 4),), (("A", 0, 1), ("pin", "p"), ("B", 0, 1), ("A", 1, 2))))

    def test_wrongs(self):
        self.ends(["put p A 0 1"], ("wrong", 0, "unset"))
        self.ends(["put v> A m-5 m"], ("wrong", 0, "early"))
        self.ends(["put v> A 0 m+7"], ("wrong", 0, "late"))
        self.ends(["put v> A m+1 m"], ("wrong", 0, "backwards"))
        self.assertEqual(self.rows(["put v> A m-4 m+6"]), (("A", 0, 10),))

    def test_wrongs_in_their_order(self):
        self.ends(["put p A -1 11"], ("wrong", 0, "unset"))
        self.ends(["put v> A -1 11"], ("wrong", 0, "early"))
        self.ends(["put v> A -1 -2"], ("wrong", 0, "early"))
        self.ends(["put v> A 12 11"], ("wrong", 0, "late"))
        self.ends(["put v> A 1 -1"], ("wrong", 0, "backwards"))

    def test_hush(self):
        self.assertEqual(self.rows(["hush v> 60", "hush <v 0"]), (("", 0, 60),))
        self.assertEqual(self.rows(["hush v> 0"]), ())
        self.ends(["hush p 0"], ("wrong", 0, "unset"))


class DropAndOnly(Plays):
    FULL = ["put v> A 0 A", "put v> B 0 3", "put v> A 2 6"]

    def test_drop(self):
        self.assertEqual(self.rows(self.FULL + ["drop A 3 5"]),
                         (("A", 0, 3), ("A", 5, 10), ("B", 0, 3), ("A", 2, 3), ("A", 5, 6)))
        self.assertEqual(self.rows(self.FULL + ["drop A 0 A"]), (("B", 0, 3),))
        self.assertEqual(self.rows(self.FULL + ["drop A 5 5"]), (("A", 0, 10), ("B", 0, 3), ("A", 2, 6)))

    def test_only(self):
        self.assertEqual(self.rows(self.FULL + ["only A 3 5"]), (("A", 3, 5), ("B", 0, 3), ("A", 3, 5)))
        self.assertEqual(self.rows(self.FULL + ["only A 5 5"]), (("B", 0, 3),))
        self.assertEqual(self.rows(self.FULL + ["only B 1 2"]), (("A", 0, 10), ("B", 1, 2), ("A", 2, 6)))

    def test_places_may_lie_anywhere(self):
        self.assertEqual(self.rows(["put v> A 0 A", "drop A -9 3", "drop A 8 99"]), (("A", 3, 8),))
        self.assertEqual(self.rows(["put v> A 0 A", "only A -9 99"]), (("A", 0, 10),))
        self.assertEqual(self.rows(["put v> A 0 A", "only A 50 99"]), ())
        self.assertEqual(self.rows(["put v> A 0 A", "drop A -99 -50"]), (("A", 0, 10),))

    def test_all_tracks(self):
        lines = ["put v> A 0 5", "put w> A 2 A"]
        self.assertEqual(self.rows(lines + ["drop A 3 4"], tracks="v, w"),
                         ((("A", 0, 3), ("A", 4, 5)), (("A", 2, 3), ("A", 4, 10))))
        self.assertEqual(self.rows(lines + ["only A 3 4"], tracks="v, w"), ((("A", 3, 4),), (("A", 3, 4),)))

    def test_pins_stay(self):
        lines = ["put v> A 0 A", "pin p ahead A 3", "pin q behind A 6"]
        self.assertEqual(self.rows(lines + ["drop A 2 8"]), (("A", 0, 2), ("pin", "p"), ("pin", "q"), ("A", 8, 10)))
        self.assertEqual(self.rows(lines + ["only A 9 9"]), (("pin", "p"), ("pin", "q")))

    def test_hush_stays(self):
        self.assertEqual(self.rows(["hush v> 2", "put v> A 0 A", "hush v> 3", "drop A 0 A"]), (("", 0, 5),))

    def test_wrongs(self):
        for word in ("drop", "only"):
            self.ends([f"{word} A m m-1"], ("wrong", 0, "backwards"))
            self.assertEqual(self.rows([f"{word} A m m"]), ())


class Pins(Plays):
    def test_sides(self):
        self.assertEqual(self.rows(["put v> A 2 5", "pin p ahead A 2"]), (("pin", "p"), ("A", 2, 5)))
        self.assertEqual(self.rows(["put v> A 2 5", "pin p behind A 2"]), (("A", 2, 3), ("pin", "p"), ("A", 3, 5)))
        self.assertEqual(self.rows(["put v> A 2 5", "pin p ahead A 4"]), (("A", 2, 4), ("pin", "p"), ("A", 4, 5)))
        self.assertEqual(self.rows(["put v> A 2 5", "pin p behind A 4"]), (("A", 2, 5), ("pin", "p")))

    def test_where_it_stood_it_is_no_more(self):
        self.assertEqual(self.rows(["put v> A 2 9", "pin p ahead A 3", "pin p behind A 6"]),
                         (("A", 2, 7), ("pin", "p"), ("A", 7, 9)))
        self.assertEqual(self.rows(["put v> A 2 9", "put w> A 0 2", "pin p ahead A 3", "pin p ahead A 1"], tracks="v, w"),
                         ((("A", 2, 9),), (("A", 0, 1), ("pin", "p"), ("A", 1, 2))))
        self.assertEqual(self.rows(["put v> A 2 9", "pin p ahead A 3", "pin q ahead A 3", "pin p ahead A 3"]),
                         (("A", 2, 3), ("pin", "q"), ("pin", "p"), ("A", 3, 9)))

    def test_lost(self):
        self.ends(["put v> A 2 5", "pin p ahead A 1"], ("wrong", 1, "lost"))
        self.ends(["put v> A 2 5", "pin p ahead A 5"], ("wrong", 1, "lost"))
        self.ends(["put v> A 2 5", "pin p ahead B 3"], ("wrong", 1, "lost"))
        self.ends(["put v> A 2 5", "pin p ahead A -3"], ("wrong", 1, "lost"))
        self.ends(["put v> A 2 5", "pin p ahead A 99"], ("wrong", 1, "lost"))
        self.ends(["put v> A 2 5", "drop A 3 4", "pin p ahead A 3"], ("wrong", 2, "lost"))

    def test_twofold(self):
        self.ends(["put v> A 2 5", "put v> A 4 9", "pin p ahead A 4"], ("wrong", 2, "twofold"))
        self.ends(["put v> A 2 5", "put w> A 4 9", "pin p ahead A 4"], ("wrong", 2, "twofold"), tracks="v, w")
        self.ends(["put v> A 0 3", "put v> A 0 3", "put v> A 0 3", "pin p ahead A 2"], ("wrong", 3, "twofold"))
        self.assertEqual(self.rows(["put v> A 2 5", "put v> A 4 9", "pin p ahead A 5"]),
                         (("A", 2, 5), ("A", 4, 5), ("pin", "p"), ("A", 5, 9)))

    def test_a_pin_that_is_wrong_moves_nothing(self):
        steps = list(played(SHEET, Program.read("tracks: v\nput v> A 2 5\npin p ahead A 3\npin p ahead A 9\n"), NUMBERS))
        self.assertEqual(steps[1:], [(1, ((("A", 2, 3), ("pin", "p"), ("A", 3, 5)),)), (2, "lost")])


class Nudges(Plays):
    LINES = ["put v> A 2 5", "pin p behind A 3"]

    def test_on_and_back(self):
        for many, row in {
                0: (("A", 2, 4), ("pin", "p"), ("A", 4, 5)), 1: (("A", 2, 5), ("pin", "p")),
                -1: (("A", 2, 3), ("pin", "p"), ("A", 3, 5)), -2: (("pin", "p"), ("A", 2, 5))}.items():
            self.assertEqual(self.rows(self.LINES + [f"nudge p {many}"]), row)

    def test_short(self):
        self.ends(self.LINES + ["nudge p 2"], ("wrong", 2, "short"))
        self.ends(self.LINES + ["nudge p 3"], ("wrong", 2, "short"))
        self.ends(self.LINES + ["nudge p -3"], ("wrong", 2, "short"))

    def test_hush_counts(self):
        self.assertEqual(self.rows(self.LINES + ["hush v> 3", "nudge p 3"]),
                         (("A", 2, 5), ("", 0, 2), ("pin", "p"), ("", 0, 1)))
        self.assertEqual(self.rows(self.LINES + ["hush <v 3", "nudge p -3"]),
                         (("", 0, 2), ("pin", "p"), ("", 0, 1), ("A", 2, 5)))
        self.assertEqual(self.rows(self.LINES + ["hush p 2", "nudge p 3"]), (("A", 2, 4), ("", 0, 2), ("A", 4, 5), ("pin", "p")))

    def test_over_several_runs(self):
        lines = ["put v> A 2 3", "put v> B 4 5", "put v> A 7 8", "pin p ahead A 2"]
        self.assertEqual(self.rows(lines + ["nudge p 2"]), (("A", 2, 3), ("B", 4, 5), ("pin", "p"), ("A", 7, 8)))
        self.assertEqual(self.rows(lines + ["nudge p 3", "nudge p -2"]), (("A", 2, 3), ("pin", "p"), ("B", 4, 5), ("A", 7, 8)))

    def test_unset_also_for_none(self):
        for many in (-1, 0, 2):
            self.ends([f"nudge p {many}"], ("wrong", 0, "unset"))

    def test_directly_beside_the_moment(self):
        p, q = ("pin", "p"), ("pin", "q")
        side = ["put v> A 2 5", "pin p behind A 2", "pin q behind A 3"]
        self.assertEqual(self.rows(side + ["nudge p 1"]), (("A", 2, 4), p, q, ("A", 4, 5)))
        self.assertEqual(self.rows(side + ["nudge q -1"]), (("A", 2, 3), p, q, ("A", 3, 5)))
        twins = ["put v> A 2 5", "pin p ahead A 3", "pin q ahead A 3"]
        self.assertEqual(self.rows(twins), (("A", 2, 3), p, q, ("A", 3, 5)))
        self.assertEqual(self.rows(twins + ["nudge p 1", "nudge p -1"]), (("A", 2, 3), q, p, ("A", 3, 5)))
        self.assertEqual(self.rows(twins + ["nudge q -1", "nudge q 1"]), (("A", 2, 3), q, p, ("A", 3, 5)))
        self.assertEqual(self.rows(twins + ["nudge p 0", "nudge q 0"]), (("A", 2, 3), p, q, ("A", 3, 5)))


class Stretches(Plays):
    LINES = ["put v> A 0 A", "pin p ahead A 3", "pin q behind A 6", "pin r ahead A 5"]

    def test_cut(self):
        p, q, r = ("pin", "p"), ("pin", "q"), ("pin", "r")
        self.assertEqual(self.rows(self.LINES + ["cut p q"]), (("A", 0, 3), p, r, q, ("A", 7, 10)))
        self.assertEqual(self.rows(self.LINES + ["hush r 2", "cut p r"]), (("A", 0, 3), p, r, ("", 0, 2), ("A", 5, 7), q, ("A", 7, 10)))
        self.assertEqual(self.rows(self.LINES + ["cut <v v>"]), (p, r, q))
        self.assertEqual(self.rows(self.LINES + ["cut <v p"]), (p, ("A", 3, 5), r, ("A", 5, 7), q, ("A", 7, 10)))
        self.assertEqual(self.rows(self.LINES + ["cut p p", "cut <v <v", "cut v> v>"]), self.rows(self.LINES))

    def test_move(self):
        p, q, r = ("pin", "p"), ("pin", "q"), ("pin", "r")
        self.assertEqual(self.rows(self.LINES + ["move p q v>"]),
                         (("A", 0, 3), p, q, ("A", 7, 10), ("A", 3, 5), r, ("A", 5, 7)))
        self.assertEqual(self.rows(self.LINES + ["move p q <v"]),
                         (("A", 3, 5), r, ("A", 5, 7), ("A", 0, 3), p, q, ("A", 7, 10)))
        self.assertEqual(self.rows(self.LINES + ["move p r q"]),
                         (("A", 0, 3), p, r, ("A", 5, 7), q, ("A", 3, 5), ("A", 7, 10)))

    def test_move_to_its_own_ends(self):
        p, q, r = ("pin", "p"), ("pin", "q"), ("pin", "r")
        same = self.rows(self.LINES)
        self.assertEqual(self.rows(self.LINES + ["move p q p"]), same)
        self.assertEqual(self.rows(self.LINES + ["move p q q"]), (("A", 0, 3), p, q, ("A", 3, 5), r, ("A", 5, 10)))
        self.assertEqual(self.rows(self.LINES + ["move <v v> <v", "move <v v> v>", "move p p v>", "move q q <v"]), same)
        self.assertEqual(self.rows(self.LINES + ["move <v p p"]), (p, ("A", 0, 5), r, ("A", 5, 7), q, ("A", 7, 10)))

    def test_copy(self):
        p, q, r = ("pin", "p"), ("pin", "q"), ("pin", "r")
        self.assertEqual(self.rows(self.LINES + ["copy p q v>"]),
                         (("A", 0, 3), p, ("A", 3, 5), r, ("A", 5, 7), q, ("A", 7, 10), ("A", 3, 7)))
        self.assertEqual(self.rows(self.LINES + ["copy p q r"]),
                         (("A", 0, 3), p, ("A", 3, 5), r, ("A", 3, 7), ("A", 5, 7), q, ("A", 7, 10)))
        self.assertEqual(self.rows(self.LINES + ["copy p q p"]),
                         (("A", 0, 3), p, ("A", 3, 7), ("A", 3, 5), r, ("A", 5, 7), q, ("A", 7, 10)))
        self.assertEqual(self.rows(["put v> A 0 2", "hush v> 3", "copy <v v> v>"]),
                         (("A", 0, 2), ("", 0, 3), ("A", 0, 2), ("", 0, 3)))
        self.assertEqual(self.rows(self.LINES + ["copy p p v>"]), self.rows(self.LINES))

    def test_on_another_track(self):
        lines = self.LINES + ["put w> B 0 2", "pin s ahead B 1"]
        s, q, r, p = ("pin", "s"), ("pin", "q"), ("pin", "r"), ("pin", "p")
        self.assertEqual(self.rows(lines + ["move p q s"], tracks="v, w"),
                         ((("A", 0, 3), p, q, ("A", 7, 10)), (("B", 0, 1), s, ("A", 3, 5), r, ("A", 5, 7), ("B", 1, 2))))
        self.assertEqual(self.rows(lines + ["copy r q <w"], tracks="v, w")[1], (("A", 5, 7), ("B", 0, 1), s, ("B", 1, 2)))

    def test_unset(self):
        for line in ("cut p x", "cut x p", "cut x x", "move x q r", "move p x r", "move p q x", "copy x q r",
                     "copy p x r", "copy p q x"):
            self.ends(self.LINES + [line], ("wrong", 4, "unset"))

    def test_apart(self):
        for line in ("cut p w>", "cut <w q", "move p <w r", "copy <w v> <w"):
            self.ends(self.LINES + [line], ("wrong", 4, "apart"), tracks="v, w")

    def test_crossed(self):
        for line in ("cut q p", "cut v> <v", "cut p <v", "cut v> q", "move q p r", "copy q r v>"):
            self.ends(self.LINES + [line], ("wrong", 4, "crossed"))
        twins = ["put v> A 0 2", "pin p ahead A 1", "pin q ahead A 1"]
        self.ends(twins + ["cut q p"], ("wrong", 3, "crossed"))
        self.assertEqual(self.rows(twins + ["cut p q"]), self.rows(twins))

    def test_inside(self):
        self.ends(self.LINES + ["move p q r"], ("wrong", 4, "inside"))
        self.ends(self.LINES + ["move <v v> p"], ("wrong", 4, "inside"))
        twins = ["put v> A 0 2", "pin p ahead A 1", "pin q ahead A 1", "pin r ahead A 1"]
        self.ends(twins + ["move p r q"], ("wrong", 4, "inside"))
        self.assertEqual(self.rows(twins + ["move p q r"]), self.rows(twins))

    def test_wrongs_in_their_order(self):
        self.ends(self.LINES + ["move q <w x"], ("wrong", 4, "unset"), tracks="v, w")
        self.ends(self.LINES + ["move q <w r"], ("wrong", 4, "apart"), tracks="v, w")
        self.ends(self.LINES + ["move q p r"], ("wrong", 4, "crossed"))


class Branches(Plays):
    def test_ask(self):
        self.ends(["ask 5 4"], ("declined", 0))
        self.ends(["hush v> 1", "ask m+1 m"], ("declined", 1))
        self.assertEqual(self.rows(["ask m m", "ask -1 0", "ask 3 m", "hush v> 1"]), (("", 0, 1),))

    def chosen(self, test, ahead=()):
        row = self.rows([*ahead, f"if {test}", "  put <v B 1 2", "else", "  put <v B 8 9", "end"])
        return row[0] == ("B", 1, 2)

    def test_most(self):
        self.assertTrue(self.chosen("most m 4"))
        self.assertFalse(self.chosen("most m 3"))
        self.assertTrue(self.chosen("most A B-10"))

    def test_heard(self):
        there = ["put v> A 2 5", "put v> A 4 8"]
        for number, holds in ((1, False), (2, True), (4, True), (7, True), (8, False), (-5, False), (99, False)):
            self.assertIs(self.chosen(f"heard A {number}", there), holds)
        self.assertFalse(self.chosen("heard B 3", there))

    def test_long(self):
        there = ["put v> A 2 6", "pin p ahead A 3", "pin q ahead A 4", "pin r behind A 2", "pin s ahead A 5"]
        for one, two, most in (("p", "q", 1), ("p", "r", 0), ("p", "p", 0), ("p", "s", 2), ("<v", "p", 1),
                               ("<v", "v>", 2), ("r", "q", 1), ("s", "v>", 1)):
            for many in (0, 1, 2):
                self.assertIs(self.chosen(f"long {one} {two} {many}", there), many <= most)
                self.assertIs(self.chosen(f"long {two} {one} {many}", there), many <= most)

    def test_long_counts_hush_too(self):
        self.assertTrue(self.chosen("long <v v> 2", ["hush v> 1", "put v> A 0 1"]))
        self.assertTrue(self.chosen("long <v v> 2", ["hush v> 2"]))
        self.assertFalse(self.chosen("long <v v> 2", ["hush v> 1"]))

    def test_long_on_two_tracks(self):
        lines = ["hush v> 3", "hush w> 3", "if long <v w> 0", "  hush v> 1", "end"]
        self.assertEqual(self.rows(lines, tracks="v, w"), ((("", 0, 3),), (("", 0, 3),)))

    def test_long_can_be_wrong(self):
        for pins in ("p v>", "<v p", "p q", "p p"):
            self.ends(["hush v> 1", f"if long {pins} 0", "  hush v> 1", "else", "  hush v> 1", "end"], ("wrong", 1, "unset"))

    def test_steps_are_counted_as_the_program_is_read(self):
        for number, end in ((0, ("wrong", 2, "lost")), (1, ("wrong", 6, "lost"))):
            self.ends([f"if most {number} 0", "  hush v> 1", "  pin p ahead A 0", "  hush v> 1", "else", "  hush v> 1",
                       "  if most 1 0", "  else", "    pin p ahead A 0", "  end", "end", "pin p ahead A 0"], end)
        self.ends(["if most 0 0", "  hush v> 1", "else", "  hush v> 1", "  hush v> 1", "end", "ask 1 0"], ("declined", 4))

    def test_ifs_without_edits(self):
        self.assertEqual(self.rows(["if most 0 1", "end", "if most 1 0", "end", "hush v> 2"]), (("", 0, 2),))
        self.assertEqual(self.rows(["if most 0 1", "else", "  hush v> 9", "end", "hush v> 2"]), (("", 0, 2),))


class Runs(Plays):
    def test_moments_that_follow_one_another_join(self):
        self.assertEqual(self.rows(["put v> A 0 3", "put v> A 3 5", "put v> A 5 5", "put v> A 5 6"]), (("A", 0, 6),))
        self.assertEqual(self.rows(["put v> A 0 3", "put v> A 2 5"]), (("A", 0, 3), ("A", 2, 5)))
        self.assertEqual(self.rows(["put v> A 0 3", "put v> A 4 5"]), (("A", 0, 3), ("A", 4, 5)))
        self.assertEqual(self.rows(["put v> A 0 3", "put v> B 3 5"]), (("A", 0, 3), ("B", 3, 5)))
        self.assertEqual(self.rows(["put v> A 0 1", "put v> A 0 1"]), (("A", 0, 1), ("A", 0, 1)))

    def test_all_hush_joins(self):
        self.assertEqual(self.rows(["hush v> 2", "put v> A 0 0", "hush v> 3"]), (("", 0, 5),))
        self.assertEqual(self.rows(["hush v> 2", "put v> A 0 1", "hush v> 3"]), (("", 0, 2), ("A", 0, 1), ("", 0, 3)))

    def test_runs_join_where_pins_are_taken_out(self):
        program = Program.read("tracks: v\nput v> A 0 6\npin p ahead A 2\nhush v> 3\nnudge p 1\ncopy p v> <v\n")
        self.assertEqual(program(SHEET, NUMBERS), ("sound", ((("A", 3, 6), ("", 0, 3), ("A", 0, 6), ("", 0, 3)),)))
        self.assertEqual(standing(SHEET, program, NUMBERS),
                         ("sound", ((("A", 3, 6), ("", 0, 3), ("A", 0, 3), ("pin", "p"), ("A", 3, 6), ("", 0, 3)),)))

    def test_hush_is_told_between_pins_too(self):
        self.assertEqual(self.rows(["put v> A 0 1", "pin p behind A 0", "hush v> 2", "nudge p 1", "hush v> 2"]),
                         (("A", 0, 1), ("", 0, 1), ("pin", "p"), ("", 0, 3)))

    def test_takes_and_marks_with_odd_names(self):
        sheet = Sheet(("pin", "hush", "ahead"), ("ahead", "pin"))
        program = Program.read("tracks: pin\nput pin> pin 0 hush\npin pin behind pin 1\nput pin ahead 0 ahead\n")
        self.assertEqual(standing(sheet, program, (9, 3, 2)), (
            "sound", ((("pin", 0, 2), ("pin", "pin"), ("ahead", 0, 2), ("pin", 2, 3)),)))

    def test_large_numbers(self):
        lines = ["put v> A 0 A", "pin p ahead A m", "nudge p -3", "hush p 60", "drop A m+1000 B", "copy <v p v>"]
        self.assertEqual(self.rows(lines, (BIG, BIG - 7, 5000)), (
            ("A", 0, 4997), ("pin", "p"), ("", 0, 60), ("A", 4997, 6000), ("A", BIG - 7, BIG), ("A", 0, 4997)))


class Questions(Plays):
    def test_unknown_names(self):
        sheet = Sheet(("A", "m"), ("A",), (("A", "zero", 3),))
        for line, name in (
                ("put v> B x y", "B"), ("put v> m x y", "m"), ("put v> A x y", "x"), ("put v> A m y", "y"),
                ("put v> zero m y", "zero"), ("drop B x y", "B"), ("only A x y", "x"), ("pin p ahead B x", "B"),
                ("pin p ahead A x", "x"), ("ask 0 y", "y"), ("ask x y", "x"), ("if heard B x\n  ask y y\nend", "B"),
                ("if heard A x\n  ask y y\nend", "x"), ("if most 0 x\n  ask y y\nend", "x"),
                ("if heard A 0\n  ask y y\nelse\n  ask z z\nend", "y"),
                ("if long p q 1\nelse\n  ask z z\nend\nput v> B x y", "z"), ("hush p 1\ncut p q\nnudge p 1\nask 0 B", "B")):
            program = Program.read(f"tracks: v\n{line}\n")
            for numbers in ((3, 0), (4, 0), (1,), (-1, 0)):
                self.fails(UnknownName, program, sheet, numbers, name=name)
                self.fails(UnknownName, standing, sheet, program, numbers, name=name)
                self.fails(UnknownName, lambda *args: list(played(*args)), sheet, program, numbers, name=name)

    def test_no_recordings(self):
        sheet = Sheet(("A", "m"), ("A",), (("m", "A", 0),))
        program = Program.read("tracks: v\nput v> A 5 0\n")
        for numbers in ((3, 4), (3, -1), (3,), (3, 3, 3), (), (3, True), (3, "3"), [3, 3], None):
            self.fails(NotRecording, program, sheet, numbers)
            self.fails(NotRecording, standing, sheet, program, numbers)
            self.fails(NotRecording, lambda *args: list(played(*args)), sheet, program, numbers)

    def test_the_generator_raises_with_its_first_row(self):
        rows = played(SHEET, Program(("v",)), (1,))
        with self.assertRaises(NotRecording):
            next(rows)

    def test_arguments_by_name(self):
        program = Program.read("tracks: v\nput v> A 0 2\n")
        self.assertEqual(program(numbers=NUMBERS, sheet=SHEET), ("sound", ((("A", 0, 2),),)))
        self.assertEqual(standing(numbers=NUMBERS, program=program, sheet=SHEET), ("sound", ((("A", 0, 2),),)))
        self.assertEqual(list(played(numbers=NUMBERS, program=program, sheet=SHEET)), [(0, ((("A", 0, 2),),))])

    def test_a_sheet_without_marks(self):
        program = Program.read("tracks: v\nhush v> 2\nask 0 0\n")
        self.assertEqual(program(Sheet((), ()), ()), ("sound", ((("", 0, 2),),)))

    def test_played(self):
        program = Program.read("tracks: v, w\nput v> A 0 2\nif heard A 1\n  hush w> 3\nelse\n  hush w> 4\nend\n"
                               "pin p ahead A 1\nask 1 0\nhush v> 9\n")
        rows = played(SHEET, program, NUMBERS)
        self.assertEqual(next(rows), (0, ((("A", 0, 2),), ())))
        self.assertEqual(list(rows), [
            (1, ((("A", 0, 2),), ())), (2, ((("A", 0, 2),), (("", 0, 3),))),
            (4, ((("A", 0, 1), ("pin", "p"), ("A", 1, 2)), (("", 0, 3),))), (5, "declined")])

    def test_played_to_the_end_or_a_wrong(self):
        self.assertEqual(list(played(SHEET, Program(("v",)), NUMBERS)), [])
        self.assertEqual(list(played(SHEET, Program.read("tracks: v\nput v> A 0 99\n"), NUMBERS)), [(0, "late")])
        program = Program.read("tracks: v\nhush v> 1\nif long p v> 0\nend\nhush v> 1\n")
        self.assertEqual(list(played(SHEET, program, NUMBERS)), [(0, ((("", 0, 1),),)), (1, "unset")])


class CueSheets(unittest.TestCase):
    def test_sound(self):
        program = Program(("voice", "two"))
        outcome = ("sound", ((("abcdefgh", 2, 5), ("", 0, 4), ("A", BIG - 1, 2 * BIG)), ()))
        self.assertEqual(cue_sheet(program, outcome), (
            "voice:\n"
            "  1 abcdefgh              0              2              5\n"
            "  2 hush                  3              0              4\n"
            "  3 A                     7   999999999999  2000000000000\n"
            "two:\n"))

    def test_ahead_is_counted_on_each_track_anew(self):
        program = Program(("a", "b"))
        outcome = ("sound", ((("A", 0, 7),), (("B", 3, 4), ("A", 9, 10))))
        self.assertEqual(cue_sheet(program, outcome), (
            "a:\n  1 A                     0              0              7\n"
            "b:\n  1 B                     0              3              4\n"
            "  2 A                     1              9             10\n"))

    def test_more_than_the_columns_hold(self):
        row = tuple(("A", 5, 6) for _ in range(1000)) + (("A", 10 ** 15, 10 ** 15 + 1),)
        lines = cue_sheet(Program(("v",)), ("sound", (row,))).split("\n")
        self.assertEqual(lines[100], "100 A                    99              5              6")
        self.assertEqual(lines[1001], "1001 A                  1000 1000000000000000 1000000000000001")

    def test_other_outcomes(self):
        self.assertEqual(cue_sheet(Program(("v",)), ("wrong", 0, "late")), "wrong: 0 late\n")
        self.assertEqual(cue_sheet(Program(("v",)), ("wrong", 11, "twofold")), "wrong: 11 twofold\n")
        self.assertEqual(cue_sheet(Program(("v",)), ("declined", 3)), "declined: 3\n")

    def test_nothing_heard(self):
        self.assertEqual(cue_sheet(Program(("v",)), ("sound", ((),))), "v:\n")
        self.assertEqual(cue_sheet(program=Program(("v",)), outcome=("sound", ((),))), "v:\n")


if __name__ == "__main__":
    unittest.main()
