"""[30] to [32] at plain stories, and what is refused."""

import unittest

from oracles import Case
from unknowntakes.compared import compare
from unknowntakes.errors import (
    BadDeed, BadEdit, BadFact, BadFault, BadMarks, BadTracks, Contradiction, CouldGoWrong, NameTaken, NoBranch,
    NothingToUndo, NoWatch, UnknownName)
from unknowntakes.families import Family
from unknowntakes.findings import Finding
from unknowntakes.programs import Program
from unknowntakes.sheets import Sheet
from unknowntakes.tables import StrictTable, Table, retell, tried

BIG = 10 ** 12
PUT = ("put", "v>", "A", ("zero", 0), ("m", 0))
STORY = [("take", "A"), ("mark", "m"), ("edit", PUT), ("watch", "late", (("wrong",),)), ("know", "m", "A", 0),
         ("watch", "short", (("blip", 3), ("declined",))), ("start", "second"), ("edit", ("ask", ("zero", 2), ("m", 0))),
         ("go", "main"), ("measure", "m", 5)]


def told(table, story=None):
    """What the table returns for the deeds of a story."""
    found = []
    for word, *parts in STORY if story is None else story:
        found.append(table.watch(parts[0], *parts[1]) if word == "watch" else getattr(table, word)(*parts))
    return found


class Deeds(Case):
    def test_a_new_table(self):
        table = Table("v", "w")
        self.assertEqual((table.sheet, table.sheet.facts), (Sheet((), ()), ()))
        self.assertEqual((table.program, table.branch, table.branches), (Program(("v", "w")), "main", ("main",)))
        self.assertEqual((table.story(), table.sound()), ([], ("sound", ((), ()))))

    def test_tracks(self):
        self.fails(BadTracks, Table, index=0)
        self.fails(BadTracks, Table, "v", "w", "v", index=2)
        self.fails(BadTracks, Table, "v", "w1", index=1)
        self.fails(BadTracks, StrictTable, "", index=0)
        self.assertEqual(StrictTable("v", "zero").program.tracks, ("v", "zero"))

    def test_a_story(self):
        table = Table("v")
        # With the fact nothing is late; what is declined or short is open as long as m may be anything.
        self.assertEqual(told(table), [[], [], [], [], ["late"], [], [], [], [], ["short"]])
        self.assertEqual((table.sheet.marks, table.sheet.takes), (("A", "m"), ("A",)))
        self.assertEqual(table.sheet.facts, (("m", "A", 0), ("m", "zero", 5), ("zero", "m", -5)))
        self.assertEqual((table.branch, table.branches), ("main", ("main", "second")))
        self.assertEqual(str(table.program), "tracks: v\nput v> A 0 m\n")
        self.assertEqual(str(table.branch_program("second")), "tracks: v\nput v> A 0 m\nask 2 m\n")
        self.assertEqual(table.story(), STORY)

    def test_takes_and_marks_come_behind(self):
        table = Table("v")
        for name in ("take b", "mark c", "take A", "mark z"):
            word, mark = name.split()
            self.assertEqual(getattr(table, word)(mark), [])
        self.assertEqual((table.sheet.marks, table.sheet.takes), (("b", "c", "A", "z"), ("b", "A")))

    def test_bad_marks(self):
        table = Table("v")
        for at in range(3):
            for deed in (table.take, table.mark):
                for name in ("zero", "x y", "", "toolongxx", None, 7, ("a",), ["a"], *table.sheet.marks):
                    self.fails(BadMarks, deed, name, index=at)
            table.mark("abc"[at])
        self.assertEqual(table.story(), [("mark", "a"), ("mark", "b"), ("mark", "c")])

    def test_facts(self):
        table = Table("v")
        table.mark("m")
        self.assertEqual((table.know("m", "zero", BIG), table.measure("m", BIG - 1)), ([], []))
        self.assertEqual(table.sheet.facts, (("m", "zero", BIG), ("m", "zero", BIG - 1), ("zero", "m", 1 - BIG)))
        for fact in (("m", "x", 0), ("m", "m", 0), ("m", "zero", True), ("m", "zero", None), (None, "m", 1)):
            self.fails(BadFact, table.know, *fact, index=3)
        self.fails(UnknownName, table.measure, "zero", 1, name="zero")
        self.fails(UnknownName, table.measure, "x", 1, name="x")
        for deed, ring in ((lambda: table.know("m", "zero", 3), 3), (lambda: table.measure("m", 3), 3)):
            with self.assertRaises(Contradiction) as caught:
                deed()
            self.assertLess(sum(fact[2] for fact in caught.exception.ring), 0)
        self.fails(Contradiction, table.measure, "m", -1)
        self.assertEqual(len(table.story()), 3)

    def test_edits(self):
        table = Table("v")
        table.take("A")
        self.assertEqual(table.edit(("if", ("heard", "A", ("A", 0)), (("hush", "v>", 1),), ())), [])
        self.fails(BadEdit, table.edit, ("hush", "w>", 1), step=2)
        self.fails(BadEdit, table.edit, (), step=2)
        self.fails(BadEdit, table.edit, ("if", ("heard", "X", ("y", 0)), (("hush", "v>", 1), ("hush", "v>", 61)), ()), step=4)
        self.fails(UnknownName, table.edit, ("put", "v>", "X", ("y", 0), ("z", 0)), name="X")
        self.fails(UnknownName, table.edit, ("put", "v>", "A", ("y", 0), ("z", 0)), name="y")
        # A mark that is no take.
        table.mark("m")
        self.fails(UnknownName, table.edit, ("put", "v>", "m", ("m", 0), ("m", 0)), name="m")
        self.assertEqual((len(table.program), len(table.story())), (2, 3))

    def test_branches(self):
        table = Table("v")
        for name in ("b", "", "a name of 20 letters", "zero"):
            self.assertEqual(table.start(name), [])
            self.assertEqual(table.branch, name)
        self.assertEqual(table.branches, ("main", "b", "", "a name of 20 letters", "zero"))
        self.fails(NameTaken, table.start, "main", name="main")
        self.fails(NameTaken, table.start, "", name="")
        self.fails(NoBranch, table.go, "c", name="c")
        self.fails(NoBranch, table.branch_program, "c", name="c")
        self.assertEqual((table.go("b"), table.branch), ([], "b"))
        self.assertEqual((table.go("b"), table.branch), ([], "b"))
        table.edit(("hush", "v>", 1))
        self.assertEqual([len(table.branch_program(name)) for name in table.branches], [0, 1, 0, 0, 0])
        table.start("d")
        self.assertEqual((len(table.program), table.branches[-1]), (1, "d"))

    def test_watches(self):
        table = Table("v")
        told(table, STORY[:3])
        self.assertEqual(table.watch("w", ("wrong",), ("blip", 2)), [])
        self.assertEqual(table.state_of("w"), "open")
        self.assertEqual(table.watch("", ("declined",)), [])
        self.assertEqual(table.state_of(""), "sure")
        self.fails(NoWatch, table.state_of, "main", name="main")
        self.fails(NameTaken, table.watch, "w", name="w")
        self.fails(NameTaken, table.watch, "w", ("x",), name="w")
        self.fails(BadFault, table.watch, "x", index=0)
        self.fails(BadFault, table.watch, "x", ("wrong",), ("wrong", 1), index=1)
        self.fails(BadFault, table.watch, "x", ("disorder", "w", "A"), index=0)
        self.fails(BadFault, table.watch, "x", ("heard", "m", ("m", 0), ("m", 0)), index=0)
        self.fails(NoWatch, table.state_of, "x", name="x")

    def test_a_step_that_is_not_there_later_on_is_no_wrong(self):
        table = Table("v")
        told(table, STORY[:3])
        table.start("longer")
        table.edit(("cut", "p", "q"))
        table.watch("cut", ("wrong", 1))
        self.assertEqual(table.state_of("cut"), "open")
        self.assertEqual(table.go("main"), ["cut"])
        self.assertEqual(table.state_of("cut"), "sure")
        self.assertEqual(table.know("m", "A", 0), [])
        self.fails(BadFault, table.watch, "again", ("wrong", 1), index=0)
        # The state was "open" on the other branch, and is "never" with this fact.
        self.assertEqual((table.go("longer"), table.state_of("cut")), (["cut"], "never"))
        self.assertEqual((table.undo(), table.undo(), table.undo()), (["cut"], [], ["cut"]))
        self.assertEqual(table.state_of("cut"), "open")

    def test_names_of_watches_in_the_order_in_which_they_were_named(self):
        table = Table("v")
        told(table, STORY[:3])
        for name in ("z", "y", "a"):
            table.watch(name, ("wrong",))
        table.watch("never", ("declined",))
        self.assertEqual(table.know("m", "A", 0), ["z", "y", "a"])
        self.assertEqual(table.undo(), ["z", "y", "a"])
        self.assertEqual(table.edit(("ask", ("zero", 1), ("zero", 0))), ["never"])

    def test_each_kind_of_deed_returns_changes(self):
        table = Table("v")
        told(table, STORY[:4])
        self.assertEqual((table.know("A", "m", -1), table.state_of("late")), (["late"], "never"))
        self.assertEqual((table.undo(), table.state_of("late")), (["late"], "open"))
        self.assertEqual((table.measure("m", 0), table.state_of("late")), (["late"], "sure"))
        self.assertEqual((table.edit(("cut", "p", "q")), table.state_of("late")), (["late"], "never"))
        self.assertEqual((table.start("b"), table.edit(("hush", "v>", 1)), table.go("main")), ([], [], []))
        self.assertEqual((table.take("B"), table.mark("n"), table.watch("new", ("wrong",))), ([], [], []))
        # The watch is not there behind this.
        self.assertEqual([table.undo() for _ in range(3)], [[], [], []])
        self.assertEqual([table.undo() for _ in range(5)], [[], [], [], ["late"], ["late"]])
        self.assertEqual(table.state_of("late"), "open")
        self.assertEqual(table.undo(), [])
        self.fails(NoWatch, table.state_of, "late", name="late")

    def test_go_and_start(self):
        table = Table("v")
        told(table, STORY[:4])
        table.start("empty")
        self.assertEqual(table.edit(("ask", ("zero", 1), ("zero", 0))), [])
        table.watch("declined", ("declined",))
        self.assertEqual((table.state_of("late"), table.state_of("declined")), ("open", "open"))
        self.assertEqual((table.go("main"), table.state_of("declined")), (["declined"], "sure"))
        self.assertEqual((table.start("third"), table.go("empty")), ([], ["declined"]))
        self.assertEqual(table.undo(), ["declined"])

    def test_what_is_returned_is_new(self):
        table = Table("v")
        told(table)
        table.story().clear()
        self.assertEqual(table.story(), STORY)
        table.undo().clear()
        self.assertEqual(table.story(), STORY[:-1])


def twin_at(many):
    """A table that has done so many deeds of the story."""
    table = Table("v")
    retell(table, STORY[:many])
    return table


class Tells(Case):
    def test_differ(self):
        table = twin_at(8)
        finding = table.differ("main", "second")
        self.assertIs(type(finding), Finding)
        self.assertEqual((finding.least_bad, finding.least_good), ((0, 0), (2, 2)))
        self.assertTrue(finding.bad == Family(table.sheet.with_fact("m", "zero", 1)))
        table.start("third")
        table.edit(("pin", "p", "ahead", "A", ("zero", 0)))
        self.assertEqual((table.differ("second", "third").state, table.differ("second", "third", further=True).state),
                         ("sure", "open"))
        self.assertEqual(table.differ("main", "main", further=True).state, "sure")
        self.fails(NoBranch, table.differ, "x", "y", name="x")
        self.fails(NoBranch, table.differ, "main", "y", name="y")
        told_apart = compare(table.sheet, table.branch_program("main"), table.program)
        self.assertTrue(table.differ("main", "third").bad == told_apart.bad)

    def test_sound(self):
        table = twin_at(5)
        self.assertIsNone(table.sound())
        table.measure("m", 5)
        self.assertIsNone(table.sound())
        table.measure("A", 7)
        self.assertEqual(table.sound(), ("sound", ((("A", 0, 5),),)))
        table.start("b")
        table.edit(("ask", ("m", 0), ("zero", 4)))
        self.assertEqual(table.sound(), ("declined", 1))
        table.go("main")
        table.edit(("cut", "p", "v>"))
        self.assertEqual(table.sound(), ("wrong", 1, "unset"))
        table.mark("x")
        self.assertIsNone(table.sound())

    def test_sound_by_facts_that_tie(self):
        table = Table("v")
        told(table, [("take", "A"), ("mark", "m"), ("know", "A", "m", 3), ("know", "m", "A", -3), ("know", "m", "zero", 0),
                     ("edit", ("put", "v>", "A", ("m", 1), ("A", 0)))])
        self.assertEqual(table.sound(), ("sound", ((("A", 1, 3),),)))

    def test_undo(self):
        table = Table("v")
        told(table)
        for many in range(len(STORY) - 1, -1, -1):
            self.assertIsInstance(table.undo(), list)
            other = twin_at(many)
            self.assertEqual(table.story(), STORY[:many])
            self.assertEqual((table.sheet.marks, table.sheet.takes, table.sheet.facts),
                             (other.sheet.marks, other.sheet.takes, other.sheet.facts))
            self.assertEqual((table.program, table.branch, table.branches), (other.program, other.branch, other.branches))
        self.fails(NothingToUndo, table.undo)
        self.fails(NothingToUndo, StrictTable("v").undo)
        told(table)
        self.assertEqual(table.story(), STORY)

    def test_undo_is_no_deed_of_a_story(self):
        table = twin_at(3)
        table.undo()
        self.assertEqual(table.story(), STORY[:2])
        self.fails(BadDeed, retell, table, [("mark", "n"), ("undo",)], index=1)
        self.assertEqual(table.story(), [*STORY[:2], ("mark", "n")])

    def test_twins(self):
        for kind in (Table, StrictTable):
            table = kind("v", "w")
            table.take("A")
            twin = table.twin()
            self.assertIs(type(twin), kind)
            self.assertEqual((twin.story(), twin.program), (table.story(), table.program))
            twin.mark("m")
            table.start("b")
            self.assertEqual((table.sheet.marks, twin.sheet.marks), (("A",), ("A", "m")))
            self.assertEqual((table.branches, twin.branches), (("main", "b"), ("main",)))
            twin.undo()
            twin.undo()
            self.assertEqual((len(table.story()), len(twin.story()), table.sheet.marks), (2, 0, ("A",)))

    def test_story(self):
        table = Table("v")
        told(table)
        self.assertEqual(table.story()[3], ("watch", "late", (("wrong",),)))
        self.assertIs(type(table.story()), list)
        self.assertTrue(all(type(deed) is tuple for deed in table.story()))
        self.fails(NameTaken, table.start, "main")
        self.assertEqual(table.story(), STORY)

    def test_deeds_by_keyword(self):
        table = Table("v")
        table.take(name="A")
        table.mark(name="m")
        table.know(x="m", y="A", c=0)
        table.measure(mark="m", number=3)
        table.edit(edit=PUT)
        table.start(name="b")
        table.go(name="main")
        self.assertEqual(table.story(), [("take", "A"), ("mark", "m"), ("know", "m", "A", 0), ("measure", "m", 3),
                                         ("edit", PUT), ("start", "b"), ("go", "main")])
        self.assertEqual(table.branch_program(name="b"), table.program)
        self.assertEqual(table.differ(one="b", two="main", further=True).state, "sure")


class Retold(Case):
    def test_retell(self):
        table = Table("v")
        self.assertIsNone(retell(table, STORY))
        self.assertEqual(table.story(), STORY)
        self.assertEqual(table.state_of("late"), "sure")
        retell(table, [("start", "more")])
        self.assertEqual(table.story(), [*STORY, ("start", "more")])

    def test_the_first_error_stops_it(self):
        table = Table("v")
        self.fails(NoBranch, retell, table, [*STORY[:3], ("go", "x"), ("mark", "n")], name="x")
        self.assertEqual(table.story(), STORY[:3])
        self.fails(NameTaken, retell, table, [("watch", "w", (("wrong",),)), ("watch", "w", ())], name="w")
        self.assertEqual(len(table.story()), 4)

    BENT = ((), ("know",), ("know", "m", "A"), ("know", "m", "A", 0, 0), ("take",), ("take", "A", "B"), ("mark",),
            ("measure", "m"), ("measure", "m", 1, 2), ("edit",), ("edit", PUT, PUT), ("start",), ("go", "a", "b"),
            ("watch",), ("watch", "w"), ("watch", "w", ("wrong",), ("declined",)), ("undo",), ("twin",), ("Take", "A"),
            ("", "A"), (None, "A"), (1, 2), (["take"], "A"), (("take",), "A"), ("story",), ("sound",), ("state_of", "w"))

    def test_bad_deeds(self):
        for deed in self.BENT:
            table = Table("v")
            self.fails(BadDeed, retell, table, [("take", "B"), deed, ("go", "x")], index=1)
            self.assertEqual(table.story(), [("take", "B")])
            self.fails(BadDeed, tried, table, [deed], index=0)

    def test_bad_deeds_when_their_turn_comes(self):
        self.fails(NoBranch, retell, Table("v"), [("go", "x"), ()], name="x")
        self.fails(NoBranch, tried, Table("v"), [("go", "x"), ()], name="x")

    def test_tried(self):
        table = twin_at(4)
        self.assertEqual(tried(table, [("know", "m", "A", 0), ("start", "b"), ("edit", ("cut", "p", "q"))]),
                         [["late"], [], ["late"]])
        self.assertEqual((table.story(), table.state_of("late")), (STORY[:4], "open"))
        self.assertEqual((table.branches, table.sheet.facts), (("main",), ()))
        self.assertEqual(tried(table, []), [])

    def test_branches_that_a_story_starts(self):
        for kind in (Table, StrictTable):
            table = kind("v")
            told(table, [*STORY[:2], ("watch", "ends", (("declined",),))])
            story = [("start", "b"), ("edit", ("ask", ("m", 0), ("A", 0))), ("start", ""), ("go", "main"), ("start", "c")]
            # Behind the ask some recordings are declined; main has no ask.
            self.assertEqual(tried(table, story), [[], ["ends"], [], ["ends"], []])
            self.assertEqual((table.branch, table.branches, len(table.story())), ("main", ("main",), 3))
            self.assertIsNone(retell(table, story[:3]))
            self.assertEqual((table.branch, table.branches), ("", ("main", "b", "")))
            self.assertEqual([len(table.branch_program(name)) for name in table.branches], [0, 1, 1])
            self.assertEqual(table.story()[3:], story[:3])
            self.assertEqual((table.undo(), table.branch, table.branches), ([], "b", ("main", "b")))

    def test_branches_that_a_story_can_not_start(self):
        for kind in (Table, StrictTable):
            table = kind("v")
            for name in ("main", "b"):
                self.fails(NameTaken, tried, table, [("start", "b"), ("start", name), ("take", "A")], name=name)
                self.assertEqual((table.branches, table.story()), (("main",), []))
            self.fails(NameTaken, retell, table, [("start", "b"), ("start", "main"), ("take", "A")], name="main")
            self.assertEqual((table.branch, table.branches, table.story()), ("b", ("main", "b"), [("start", "b")]))
            for bent in (("start",), ("start", "c", "d"), ("Start", "c"), ("start ", "c"), ("stop", "c"), ("step", "c")):
                self.fails(BadDeed, retell, table, [bent], index=0)
                self.fails(BadDeed, tried, table, [("start", "c"), bent], index=1)
            self.assertEqual(table.branches, ("main", "b"))

    def test_tried_with_an_error(self):
        table = twin_at(4)
        for story, kind in (([("know", "m", "A", 0), ("go", "x")], NoBranch), ([("mark", "n"), ("mark", "n")], BadMarks),
                            ([("start", "b"), ("edit", ())], BadEdit), ([("start", "b"), ()], BadDeed)):
            self.fails(kind, tried, table, story)
            self.assertEqual((table.story(), table.branches, table.state_of("late")), (STORY[:4], ("main",), "open"))

    def test_stories_of_tables_may_be_told(self):
        table = twin_at(len(STORY))
        other = Table("v")
        self.assertEqual(tried(other, table.story()), told(Table("v")))
        retell(other, table.story())
        self.assertEqual(other.story(), table.story())
        self.fails(BadMarks, retell, table, table.story(), index=2)
        self.fails(BadEdit, retell, Table("w"), STORY, step=0)

    def test_the_story_stays_as_it_was(self):
        story = list(STORY)
        retell(Table("v"), story)
        tried(Table("v"), story)
        self.assertEqual(story, STORY)


class Strict(Case):
    def test_it_is_a_table(self):
        self.assertIsInstance(StrictTable("v"), Table)

    def test_an_edit_that_could_go_wrong(self):
        table = StrictTable("v")
        told(table, STORY[:2])
        self.fails(CouldGoWrong, table.edit, PUT, step=0, kind="late", recording=(0, 1))
        self.assertEqual((len(table.program), len(table.story())), (0, 2))
        table.know("m", "A", 0)
        self.assertEqual(table.edit(PUT), [])
        self.fails(CouldGoWrong, table.edit, ("pin", "p", "ahead", "A", ("zero", 2)), step=1, kind="lost", recording=(0, 0))
        self.fails(CouldGoWrong, table.edit, ("if", ("most", ("m", 0), ("zero", 6)), (), (("cut", "v>", "<v"),)), step=2,
                   kind="crossed", recording=(7, 7))
        self.assertEqual(len(table.program), 1)

    def test_the_least_recording_with_its_wrong(self):
        table = StrictTable("v")
        told(table, [("mark", "m"), ("mark", "n")])
        edit = ("if", ("most", ("zero", 4), ("m", 0)), (("cut", "p", "<v"),),
                (("if", ("most", ("zero", 4), ("n", 0)), (("cut", "v>", "<v"),), ()),))
        self.fails(CouldGoWrong, table.edit, edit, step=3, kind="crossed", recording=(0, 4))

    def test_behind_the_other_errors(self):
        table = StrictTable("v")
        table.take("A")
        self.fails(BadEdit, table.edit, ("cut", "p", "<w"), step=0)
        self.fails(UnknownName, table.edit, ("put", "v>", "A", ("A", 1), ("x", 0)), name="x")
        self.fails(CouldGoWrong, table.edit, ("put", "v>", "A", ("A", 1), ("A", 0)), step=0, kind="backwards", recording=(0,))

    def test_declines_may_be(self):
        table = StrictTable("v")
        told(table, [("mark", "m"), ("edit", ("ask", ("m", 0), ("zero", 3))), ("watch", "all", (("wrong",),))])
        self.assertEqual(table.state_of("all"), "sure")

    def test_a_program_may_be_right_behind_an_ask_alone(self):
        table = StrictTable("v")
        told(table, [*STORY[:2], ("edit", ("ask", ("m", 0), ("A", 0)))])
        self.assertEqual(table.edit(PUT), [])

    def test_branches_and_undo(self):
        table = StrictTable("v")
        told(table, [*STORY[:2], ("know", "m", "A", 0), ("edit", PUT), ("start", "b"), ("edit", ("hush", "v>", 1)),
                     ("go", "main")])
        self.assertEqual([table.undo() for _ in range(5)], [[]] * 5)
        self.fails(CouldGoWrong, table.edit, PUT, step=0, kind="late", recording=(0, 1))

    def test_twins_and_stories_are_strict(self):
        table = StrictTable("v")
        told(table, STORY[:2])
        self.fails(CouldGoWrong, table.twin().edit, PUT, step=0)
        self.fails(CouldGoWrong, tried, table, [("mark", "n"), ("edit", PUT)], step=0, kind="late", recording=(0, 1, 0))
        self.fails(CouldGoWrong, retell, table, [("mark", "n"), ("edit", PUT), ("mark", "k")], step=0)
        self.assertEqual(table.sheet.marks, ("A", "m", "n"))

    def test_great_numbers(self):
        table = StrictTable("v")
        told(table, [("take", "A"), ("know", "zero", "A", -BIG)])
        self.assertEqual(table.edit(("put", "v>", "A", ("zero", 0), ("zero", BIG))), [])
        self.fails(CouldGoWrong, table.edit, ("put", "v>", "A", ("zero", BIG + 1), ("A", 0)), step=1, kind="backwards",
                   recording=(BIG,))


if __name__ == "__main__":
    unittest.main()
