"""[28], [29] at plain trees, and what is refused."""

import unittest

from oracles import Case
from unknowntakes.errors import BadFault, BadTree, NotRecording, UnknownName
from unknowntakes.programs import Program
from unknowntakes.sheets import Sheet
from unknowntakes.trees import follow, is_outcome_tree, is_verdict_tree, outcome_tree, verdict_tree

BIG = 10 ** 12
SHEET = Sheet(("A", "m"), ("A",), (("m", "A", 4),))
GOOD, BAD = ("good",), ("bad",)


def read(*lines, tracks="v"):
    return Program.read(f"tracks: {tracks}\n" + "".join(f"{line}\n" for line in lines))


def sound(*tracks):
    return ("sound", tracks)


def run(start, stop, take="A"):
    """A run between two places, "zero" for a number."""
    return (take, *[("zero", end) if isinstance(end, int) else end for end in (start, stop)])


class Follow(Case):
    TREE = [("ask", "m", "A", 0, 1, 4), ("ask", "zero", "m", -3, 3, 2), ("low",), ("mid", 1), ("high", ())]

    def test_yes_and_no(self):
        for row, leaf in (((5, 0), ("low",)), ((5, 2), ("low",)), ((5, 3), ("mid", 1)), ((5, 5), ("mid", 1)),
                          ((5, 6), ("high", ())), ((0, 0), ("low",)), ((0, 4), ("high", ()))):
            self.assertEqual(follow(SHEET, self.TREE, row), leaf)

    def test_a_leaf_alone(self):
        self.assertEqual(follow(SHEET, [GOOD], (0, 0)), GOOD)
        self.assertEqual(follow(SHEET, [()], (0, 0)), ())
        self.assertEqual(follow(Sheet((), ()), [(1, 2)], ()), (1, 2))

    def test_great_numbers(self):
        tree = [("ask", "A", "m", BIG, 1, 2), BAD, GOOD]
        self.assertEqual(follow(SHEET, tree, (3 * BIG, 2 * BIG)), BAD)
        self.assertEqual(follow(SHEET, tree, (3 * BIG + 1, 2 * BIG)), GOOD)

    def test_any_word_may_be_a_leaf(self):
        for leaf in (("asks", 1), ("Ask",), (["ask"],), (None,), ("none", ()), (0, "ask")):
            self.assertEqual(follow(SHEET, [leaf], (0, 0)), leaf)

    def test_the_tree_stays_as_it_was(self):
        tree = list(self.TREE)
        follow(SHEET, tree, (5, 0))
        self.assertEqual(tree, self.TREE)


class BadTrees(Case):
    """BadTree(index), by all functions that take a tree."""

    def check(self, tree, index):
        program = read()
        self.fails(BadTree, follow, SHEET, tree, (0, 0), index=index)
        self.fails(BadTree, is_outcome_tree, SHEET, program, tree, index=index)
        self.fails(BadTree, is_verdict_tree, SHEET, program, tree, ("wrong",), index=index)

    def test_an_empty_list(self):
        self.check([], 0)

    def test_asks_of_another_form(self):
        for ask in (("ask",), ("ask", "m"), ("ask", "m", "A", 0, 1), ("ask", "m", "A", 0, 1, 2, 2), ("ask", "m", "m", 0, 1, 2),
                    ("ask", "x", "m", 0, 1, 2), ("ask", "m", "x", 0, 1, 2), ("ask", "zero", "zero", 0, 1, 2),
                    ("ask", "m", "A", True, 1, 2), ("ask", "m", "A", "0", 1, 2), ("ask", "m", "A", None, 1, 2),
                    ("ask", "m", "A", 0, True, 2), ("ask", "m", "A", 0, 2, True), ("ask", "m", "A", 0, "1", 2),
                    ("ask", "m", "A", 0, 1, None), ("ask", ["m"], "A", 0, 1, 2), ("ask", "m", None, 0, 1, 2),
                    ("ask", "m", "A", 0, (1,), 2)):
            self.check([ask, GOOD, BAD], 0)
            self.check([("ask", "m", "A", 0, 1, 2), GOOD, ask, BAD, BAD], 2)

    def test_rows_that_are_not_there_or_not_behind(self):
        for yes, no in ((1, 3), (3, 1), (-1, 2), (0, 1), (1, 0), (1, 10 ** 20)):
            self.check([("ask", "m", "A", 0, yes, no), GOOD, BAD], 0)
        self.check([("ask", "m", "A", 0, 1, 2), GOOD, ("ask", "m", "A", 0, 2, 3), BAD], 2)
        self.check([("ask", "m", "A", 0, 1, 2), GOOD, ("ask", "m", "A", 0, 3, 1), BAD], 2)

    def test_rows_that_are_named_before(self):
        self.check([("ask", "m", "A", 0, 1, 1), GOOD, BAD], 0)
        self.check([("ask", "m", "A", 0, 1, 2), ("ask", "m", "A", 0, 2, 3), BAD, GOOD], 1)
        self.check([("ask", "m", "A", 0, 1, 2), ("ask", "m", "A", 0, 3, 4), ("ask", "m", "A", 0, 5, 4), BAD, BAD, BAD], 2)

    def test_rows_that_are_not_named(self):
        self.check([("ask", "m", "A", 0, 1, 3), GOOD, BAD, BAD], 2)
        self.check([GOOD, BAD], 1)
        self.check([("ask", "m", "A", 0, 2, 4), GOOD, BAD, BAD, BAD], 1)
        # Also asks that are good themselves.
        self.check([GOOD, ("ask", "m", "A", 0, 2, 3), GOOD, BAD], 1)

    def test_asks_come_first(self):
        # Row 1 is not named; row 2 is bad.
        self.check([("ask", "m", "A", 0, 2, 3), GOOD, ("ask", "m"), BAD], 2)
        self.check([("ask", "m", "A", 0, 2, 3), GOOD, ("ask", "m", "A", 0, 3, 4), BAD, BAD], 2)
        self.check([GOOD, ("ask", "m", "A", 0, 2, 2), ("ask",)], 1)

    def test_other_errors_come_ahead(self):
        self.fails(NotRecording, follow, SHEET, [], (-1, 0))
        self.fails(NotRecording, follow, SHEET, [("ask",)], (0, 5))
        self.fails(NotRecording, follow, SHEET, [GOOD], (0,))
        self.fails(NotRecording, follow, SHEET, [GOOD], (0, True))
        self.fails(UnknownName, is_outcome_tree, SHEET, read("ask x 0"), [], name="x")
        self.fails(UnknownName, is_verdict_tree, SHEET, read("ask x 0"), [], name="x")
        self.fails(UnknownName, outcome_tree, SHEET, read("ask x 0"), name="x")
        self.fails(UnknownName, verdict_tree, SHEET, read("ask x 0"), name="x")
        self.fails(BadFault, is_verdict_tree, SHEET, read(), [], index=0)
        self.fails(BadFault, is_verdict_tree, SHEET, read(), [], ("wrong",), ("wrong", 0), index=1)
        self.fails(BadFault, verdict_tree, SHEET, read(), index=0)
        self.fails(BadFault, verdict_tree, SHEET, read(), ("declined",), ("x",), index=1)


class OutcomeTrees(Case):
    PROGRAM = read("put v> A 0 m", "hush v> 2", "ask m 9")

    def is_right(self, tree, program=None, sheet=SHEET):
        found = is_outcome_tree(sheet, self.PROGRAM if program is None else program, tree)
        self.assertIs(type(found), bool)
        return found

    TREE = [("ask", "m", "A", 0, 1, 2), ("ask", "zero", "m", -1, 3, 4), ("wrong", 0, "late"),
            ("ask", "m", "zero", 9, 5, 6), sound((("", 0, 2),)), sound((run(0, ("m", 0)), ("", 0, 2))), ("declined", 2)]

    def bent(self, at, row):
        return [*self.TREE[:at], row, *self.TREE[at + 1:]]

    def test_right(self):
        self.assertTrue(self.is_right(self.TREE))

    def test_what_is_told_is_right(self):
        tree = outcome_tree(SHEET, self.PROGRAM)
        self.assertIs(type(tree), list)
        self.assertTrue(self.is_right(tree))
        for row in ((5, 0), (5, 3), (20, 10), (20, 9), (3, 4)):
            said = follow(SHEET, tree, row)
            self.assertEqual(said[0], self.PROGRAM(SHEET, row)[0])
        tree.clear()
        self.assertTrue(outcome_tree(SHEET, self.PROGRAM))
        self.assertEqual(outcome_tree(SHEET, read()), [sound(())])
        self.assertEqual(outcome_tree(SHEET, read("cut p q", tracks="v, w")), [("wrong", 0, "unset")])

    def test_wrong_leaves(self):
        for at, row in ((2, ("wrong", 0, "early")), (2, ("wrong", 1, "late")), (2, ("declined", 0)), (6, ("declined", 1)),
                        (6, ("wrong", 2, "declined")), (4, sound(())), (4, sound((("", 0, 1),))),
                        (4, sound((run(0, 0), ("", 0, 2)))), (4, sound((run(0, ("m", 0)), ("", 0, 2)))),
                        (5, sound((("", 0, 2),))), (5, sound((run(0, ("m", 1)), ("", 0, 2)))),
                        (5, sound((run(0, ("A", 0)), ("", 0, 2)))), (5, sound((run(0, 5), ("", 0, 2)))),
                        (5, sound((run(0, 1), run(1, ("m", 0)), ("", 0, 2)))),
                        (5, sound((run(0, ("m", 0), "B"), ("", 0, 2)))),
                        (5, sound((run(0, ("m", 0)), ("", 0, 1), ("", 0, 1))))):
            self.assertFalse(self.is_right(self.bent(at, row)), row)

    def test_other_words_and_forms(self):
        runs = (run(0, ("m", 0)), ("", 0, 2))
        for row in ((), (1,), (None, 2), ("sound",), sound(runs, ()), ("sound", (runs,), 1), ("sound", runs), ("sound", [runs]),
                    sound(list(runs)), sound(([*runs[0]], runs[1])), sound((("A", 0, ("m", 0)), runs[1])),
                    sound((runs[0], ("", 0, True))), sound((runs[0], ("", ("zero", 0), ("zero", 2)))),
                    sound((runs[0], ("", 1, 2))), sound((runs[0], ("", 0, 0))), sound((runs[0], ("", False, 2))), sound((("A", ("zero", False), ("m", 0)), runs[1])),
                    sound((("A", ("zero", 0), ("m", "0")), runs[1])), sound((("A", ("zero", 0), ("x", 0)), runs[1])),
                    sound((("A", ("zero", 0), ("m", 0), 1), runs[1])), sound((("A", ("zero", 0)), runs[1])),
                    sound((("A", ["zero", 0], ("m", 0)), runs[1])), sound((("A", None, ("m", 0)), runs[1])),
                    sound(((None, ("zero", 0), ("m", 0)), runs[1])), sound(((("A",), ("zero", 0), ("m", 0)), runs[1])),
                    ("good",), ("bad",), ("none",), ("none", ()), ("none", None), ("Sound", (runs,)), ("wrong",),
                    ("wrong", 0), ("declined",), ("declined", None), ("shape", (("A", "2"),))):
            self.assertFalse(self.is_right(self.bent(5, row)), row)
        for row in (("wrong", 0), ("wrong", False, "late"), ("wrong", 0, "late", 1), ("wrong", "0", "late"),
                    ("wrong", 0, None), ("wrong", 0, ["late"])):
            self.assertFalse(self.is_right(self.bent(2, row)), row)
        for row in (("declined",), ("declined", 2, 2), ("declined", True), ("declined", "2")):
            self.assertFalse(self.is_right(self.bent(6, row)), row)
        self.assertFalse(self.is_right([("wrong", False, "unset")], read("cut p q")))
        self.assertFalse(self.is_right([("declined", True)], read("hush v> 1", "ask 1 0")))

    def test_places_with_the_same_number_at_the_recordings_of_the_leaf(self):
        sheet = SHEET.with_fact("A", "m", 0)
        program = read("put v> A 0 m")
        tree = [("ask", "m", "A", 0, 1, 2), ("ask", "A", "zero", 0, 3, 4), ("wrong", 0, "late"), sound(()),
                sound((run(0, ("A", 0)),))]
        self.assertTrue(self.is_right(tree, program, sheet))
        self.assertFalse(self.is_right(tree, program))
        self.assertTrue(self.is_right([sound((run(("m", -3), ("zero", 5)),))], read("put v> A 0 m+2"),
                                      SHEET.measured("m", 3).with_fact("zero", "A", -5)))

    def test_needless_asks(self):
        tree = [("ask", "m", "zero", 100, 1, 2), ("ask", "A", "zero", 0, 3, 4), sound((("", 0, 1),)), sound((("", 0, 1),)),
                sound((("", 0, 1),))]
        self.assertTrue(self.is_right(tree, read("hush v> 1")))

    def test_leaves_without_recordings(self):
        hush = sound((("", 0, 1),))
        ring = (("m", "A", 4), ("A", "m", -5))
        for leaf, right in ((hush, False), (("none", ring), True), (("none", ring[::-1]), True), (("none", ring[:1]), False),
                            (("none", list(ring)), False), (("none", (*ring, *ring)), True), (("none", (ring[0],) * 2), False),
                            (("none", ring, 1), False), (("none", ()), False), (("none", (("m", "A", 3), ring[1])), False),
                            (("none", (("m", "A"), ring[1])), False), (("none", (None, ring[1])), False),
                            (("none", (("m", "A", 4), ["A", "m", -5])), False), (("none", 7), False),
                            (("None", ring), False), (("good", ring), False), (("sound", ring), False), ((None, ring), False)):
            tree = [("ask", "m", "A", 4, 1, 2), hush, leaf]
            self.assertIs(self.is_right(tree, read("hush v> 1")), right, leaf)
            verdict = [tree[0], GOOD, GOOD if leaf == hush else leaf]
            self.assertIs(is_verdict_tree(SHEET, read("hush v> 1"), verdict, ("wrong",)), right, leaf)

    def test_rings_of_the_way_and_of_marks(self):
        hush = sound((("", 0, 1),))
        first = [("ask", "m", "zero", -1, 1, 2), None, hush]
        for ring, right in (((("m", "zero", -1), ("zero", "m", 0)), True), ((("m", "zero", True), ("zero", "m", 0)), False),
                            ((("m", "zero", -1), ("zero", "A", 0)), False), ((("m", "zero", -1), ("zero", "m", False)), False)):
            first[1] = ("none", ring)
            self.assertIs(self.is_right(first, read("hush v> 1")), right, ring)
        deep = [("ask", "A", "m", 2, 1, 2), ("ask", "m", "zero", 3, 3, 4), hush, ("ask", "zero", "A", -6, 5, 6), hush, None, hush]
        deep[5] = ("none", (("A", "m", 2), ("m", "zero", 3), ("zero", "A", -6)))
        self.assertTrue(self.is_right(deep, read("hush v> 1")))
        deep[6] = deep[5]
        self.assertFalse(self.is_right(deep, read("hush v> 1")))

    def test_what_has_recordings_is_no_none(self):
        self.assertFalse(self.is_right([("none", (("m", "A", 4), ("A", "m", -5)))], read("hush v> 1")))
        # The facts of this ring add up to 0, and there are recordings that keep them.
        tree = [("ask", "A", "m", -4, 1, 2), ("none", (("m", "A", 4), ("A", "m", -4))), sound((("", 0, 1),))]
        self.assertFalse(self.is_right(tree, read("hush v> 1")))
        self.assertFalse(is_verdict_tree(SHEET, read("hush v> 1"), [*tree[:2], GOOD], ("wrong",)))

    def test_bad_rows_are_looked_at_first(self):
        self.fails(BadTree, is_outcome_tree, SHEET, self.PROGRAM, [*self.TREE, ("x",)], index=7)


class VerdictTrees(Case):
    PROGRAM = read("put v> A 0 m", "ask m 9")
    TREE = [("ask", "m", "A", 0, 1, 2), ("ask", "m", "zero", 2, 3, 4), BAD, BAD, GOOD]
    FAULTS = (("wrong",), ("blip", 3))

    def test_right(self):
        # Without anything on the track there is no blip.
        self.assertFalse(is_verdict_tree(SHEET, self.PROGRAM, self.TREE, *self.FAULTS))
        sheet = SHEET.with_fact("zero", "m", -1)
        self.assertIs(is_verdict_tree(sheet, self.PROGRAM, self.TREE, *self.FAULTS), True)
        self.assertIs(is_verdict_tree(sheet, self.PROGRAM, self.TREE, *self.FAULTS, ("declined",)), False)

    def test_what_is_told_is_right(self):
        tree = verdict_tree(SHEET, self.PROGRAM, *self.FAULTS)
        self.assertTrue(is_verdict_tree(SHEET, self.PROGRAM, tree, *self.FAULTS))
        for row, leaf in (((5, 0), GOOD), ((5, 1), BAD), ((5, 2), BAD), ((5, 3), GOOD), ((3, 4), BAD), ((20, 15), GOOD)):
            self.assertEqual(follow(SHEET, tree, row), leaf)
        tree.clear()
        self.assertTrue(verdict_tree(SHEET, self.PROGRAM, *self.FAULTS))
        self.assertEqual(verdict_tree(SHEET, read(), ("wrong",)), [GOOD])
        self.assertEqual(verdict_tree(SHEET, read("cut p q"), ("wrong",)), [BAD])

    def test_other_leaves(self):
        for leaf in ((), ("good", 1), ("bad", ()), ("sure",), (["good"],), ("none",), ("none", ()), sound(()), ("wrong", 0, "x"),
                     (None,), ("Good",)):
            self.assertFalse(is_verdict_tree(SHEET, read(), [leaf], ("wrong",)), leaf)
        self.assertTrue(is_verdict_tree(SHEET, read(), [GOOD], ("wrong",)))
        self.assertFalse(is_verdict_tree(SHEET, read(), [BAD], ("wrong",)))

    def test_a_leaf_has_recordings(self):
        for leaf in (GOOD, BAD):
            self.assertFalse(is_verdict_tree(SHEET, read(), [("ask", "m", "A", 4, 1, 2), GOOD, leaf], ("wrong",)))


if __name__ == "__main__":
    unittest.main()
