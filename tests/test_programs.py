"""[9] and [10]: what programs take and refuse, and programs as objects."""

import unittest

from oracles import Case
from unknowntakes.errors import BadEdit, BadPlace, BadStep, BadTracks
from unknowntakes.programs import Program

IN, OUT = ("in", 0), ("out", 3)
PUT = ("put", "voice>", "A", IN, OUT)
HUSH = ("hush", "p", 4)
ASK = ("ask", IN, OUT)

GOOD = (
    PUT, ("put", "<voice", "A", IN, IN), ("put", "p", "zero", ("zero", -7), ("x", 10 ** 30)),
    ("hush", "voice>", 0), ("hush", "p", 60), ("drop", "A", IN, OUT), ("only", "A", OUT, IN),
    ("pin", "p", "ahead", "A", IN), ("pin", "zero", "behind", "A", ("zero", 0)),
    ("nudge", "p", 3), ("nudge", "p", -3), ("nudge", "p", 0),
    ("cut", "p", "q"), ("cut", "<voice", "voice>"), ("cut", "p", "p"), ("cut", "two>", "<voice"),
    ("move", "p", "q", "voice>"), ("move", "<two", "two>", "<voice"), ("copy", "p", "q", "r"),
    ("copy", "<voice", "voice>", "two>"), ASK, ("ask", ("zero", 0), ("zero", 0)),
    ("if", ("most", IN, OUT), (), ()), ("if", ("heard", "A", IN), (HUSH,), ()),
    ("if", ("long", "p", "<voice", 0), (), (HUSH, PUT)), ("if", ("long", "voice>", "q", 2), (PUT,), (HUSH,)),
    ("if", ("most", IN, OUT), (("if", ("most", OUT, IN), (("if", ("heard", "A", IN), (HUSH,), ()),), ()),), ()),
)

BAD = (
    (), ("",), ("puts", "p", "A", IN, OUT), (7,), (None,), (("put",),), (["put"], "p", "A", IN, OUT), ("voice",),
    ("put",), ("put", "p", "A", IN), ("put", "p", "A", IN, OUT, 1), ("put", "p1", "A", IN, OUT),
    ("put", "<other", "A", IN, OUT), ("put", "other>", "A", IN, OUT), ("put", ">voice", "A", IN, OUT),
    ("put", "<voice>", "A", IN, OUT), ("put", "voice<", "A", IN, OUT), ("put", "<", "A", IN, OUT),
    ("put", ">", "A", IN, OUT), ("put", None, "A", IN, OUT), ("put", 3, "A", IN, OUT), ("put", "", "A", IN, OUT),
    ("put", ["p"], "A", IN, OUT), ("put", "abcdefghi", "A", IN, OUT), ("put", "p", "", IN, OUT),
    ("put", "p", "<voice", IN, OUT), ("put", "p", 3, IN, OUT), ("put", "p", "A1", IN, OUT), ("put", "p", ["A"], IN, OUT),
    ("put", "p", "A", "in", OUT), ("put", "p", "A", IN, 3), ("put", "p", "A", IN, None), ("put", "p", "A", (), OUT),
    ("put", "p", "A", ("in",), OUT), ("put", "p", "A", ("in", 0, 0), OUT), ("put", "p", "A", IN, ("out", True)),
    ("put", "p", "A", IN, ("out", False)), ("put", "p", "A", IN, ("out", "3")), ("put", "p", "A", IN, ("out", 3.0)),
    ("put", "p", "A", IN, ("out", None)), ("put", "p", "A", IN, (3, "out")), ("put", "p", "A", IN, ("a b", 3)),
    ("put", "p", "A", IN, ["out", 3]), ("put", "p", "A", IN, (["out"], 3)), ("put", "p", "A", IN, ("<voice", 3)),
    ("hush",), ("hush", "p"), ("hush", "p", -1), ("hush", "p", 61), ("hush", "p", True), ("hush", "p", False),
    ("hush", "p", "4"), ("hush", "p", None), ("hush", "<other", 4), ("hush", "p", 4, 4), ("hush", "p", (4,)),
    ("drop", "A", IN), ("drop", "<voice", IN, OUT), ("drop", "A", IN, "out"), ("drop", "p", "A", IN, OUT),
    ("only", "A", IN), ("only", 1, IN, OUT), ("only", "A", (True, 1), OUT), ("only", "A", IN, OUT, OUT),
    ("pin", "<voice", "ahead", "A", IN), ("pin", "voice>", "ahead", "A", IN), ("pin", "p", "front", "A", IN),
    ("pin", "p", "", "A", IN), ("pin", "p", None, "A", IN), ("pin", "p", ["ahead"], "A", IN),
    ("pin", "p", "ahead", "voice>", IN), ("pin", "p", "ahead", "A", "in"), ("pin", "p", "ahead", "A"),
    ("pin", 5, "ahead", "A", IN), ("pin", "p", "ahead", "A", IN, OUT),
    ("nudge", "<voice", 0), ("nudge", "voice>", 1), ("nudge", "p", 4), ("nudge", "p", -4), ("nudge", "p", True),
    ("nudge", "p", "1"), ("nudge", "p"), ("nudge", "p", 1, 1), ("nudge", None, 1),
    ("cut", "p"), ("cut", "p", "q", "r"), ("cut", "<other", "q"), ("cut", "p", "other>"), ("cut", "p", 1),
    ("move", "p", "q"), ("move", "p", "q", "<other"), ("move", "p", "q", "r", "r"), ("move", ("p",), "q", "r"),
    ("copy", "p", "q"), ("copy", "p", "q", "a-b"), ("copy", "p", "q", "r", ""), ("copy", "p", "other>", "r"),
    ("ask", IN), ("ask", IN, OUT, OUT), ("ask", "in", "out"), ("ask", IN, ("out", True)),
    ("if",), ("if", ("most", IN, OUT)), ("if", ("most", IN, OUT), ()), ("if", ("most", IN, OUT), (), (), ()),
    ("if", ("most", IN, OUT), [], ()), ("if", ("most", IN, OUT), (), []), ("if", ("most", IN, OUT), None, ()),
    ("if", ("most", IN, OUT), (), None), ("if", ("most", IN, OUT), "", ()), ("if", ["most", IN, OUT], (), ()),
    ("if", (), (), ()), ("if", None, (), ()), ("if", "most", (), ()), ("if", ("most", IN), (), ()),
    ("if", ("most", IN, OUT, OUT), (), ()), ("if", ("most", IN, 3), (), ()), ("if", ("least", IN, OUT), (), ()),
    ("if", ("heard", "A"), (), ()), ("if", ("heard", "<voice", IN), (), ()), ("if", ("heard", "A", IN, IN), (), ()),
    ("if", ("long", "p", "q"), (), ()), ("if", ("long", "p", "q", 3), (), ()), ("if", ("long", "p", "q", -1), (), ()),
    ("if", ("long", "p", "q", True), (), ()), ("if", ("long", "<other", "q", 1), (), ()),
    ("if", ("if", ("most", IN, OUT), (), ()), (), ()), ("if", (["most"], IN, OUT), (), ()),
)


def many_ifs(inside):
    """Ifs in one another, the innermost with this edit."""
    edit = inside
    for _ in range(60):
        edit = ("if", ("most", IN, OUT), (edit,), ())
    return edit


class Building(Case):
    def test_fields(self):
        program = Program(("voice", "two"), *GOOD)
        self.assertEqual((program.tracks, program.edits), (("voice", "two"), GOOD))
        self.assertEqual((Program(("a",)).tracks, Program(("a",)).edits), (("a",), ()))

    def test_each_good_edit_alone(self):
        for edit in GOOD:
            self.assertEqual(Program(("voice", "two"), edit).edits, (edit,))

    def test_bad_tracks(self):
        self.fails(BadTracks, Program, (), index=0)
        for name in ("", "a1", "abcdefghi", "<a", "a>", 5, None, True, ["a"], ("a",), "a b"):
            self.fails(BadTracks, Program, (name,), index=0)
            self.fails(BadTracks, Program, ("one", "two", name, "1"), index=2)
        self.fails(BadTracks, Program, ("one", "two", "one", "1"), index=2)
        self.assertEqual(Program(("zero", "Zero", "abcdefgh")).tracks, ("zero", "Zero", "abcdefgh"))

    def test_bad_edits(self):
        for edit in BAD:
            self.fails(BadEdit, Program, ("voice",), edit, step=0)
            self.fails(BadEdit, Program, ("voice",), PUT, HUSH, edit, (), step=2)

    def test_what_is_no_tuple_is_no_edit(self):
        for edit in (None, 3, "put", ["hush", "p", 4], {"hush": 1}):
            self.fails(BadEdit, Program, ("voice",), HUSH, ("if", ("most", IN, OUT), (edit,), ()), step=2)

    def test_each_bad_edit_inside_an_if(self):
        for edit in BAD:
            one = ("if", ("heard", "A", IN), (PUT, edit), (HUSH, ()))
            two = ("if", ("heard", "A", IN), (PUT, HUSH), (HUSH, edit, ()))
            self.fails(BadEdit, Program, ("voice",), PUT, one, (), step=3)
            self.fails(BadEdit, Program, ("voice",), PUT, two, (), step=5)

    def test_an_if_is_looked_at_ahead_of_its_insides(self):
        good = ("most", IN, OUT)
        self.fails(BadEdit, Program, ("voice",), ("if", ("most", IN), ((),), ((),)), step=0)
        self.fails(BadEdit, Program, ("voice",), ("if", good, ((),), [HUSH]), step=0)
        self.fails(BadEdit, Program, ("voice",), ("if", good, (HUSH, ("if", good, ((),), 3)), ((),)), step=2)
        self.fails(BadEdit, Program, ("voice",), ("if", good, (HUSH, ("if", good, ((),), ())), ((),)), step=3)
        self.fails(BadEdit, Program, ("voice",), ("if", good, (HUSH, ("if", good, (HUSH,), ((),))), ((),)), step=4)
        self.fails(BadEdit, Program, ("voice",), ("if", good, (HUSH, ("if", good, (HUSH,), ())), ((),)), step=4)

    def test_tracks_ahead_of_edits(self):
        self.fails(BadTracks, Program, ("one", "one"), (), index=1)
        self.fails(BadTracks, Program, (), (), index=0)

    def test_fixed_pins_of_the_own_tracks_alone(self):
        self.fails(BadEdit, Program, ("voice",), ("cut", "<voice", "two>"), step=0)
        self.assertEqual(len(Program(("voice", "two"), ("cut", "<voice", "two>"))), 1)

    def test_more_than_the_limits(self):
        edits = GOOD * 4
        self.assertEqual(Program(("voice", "two", "three", "four"), *edits).edits, edits)
        self.assertEqual(len(Program(("voice",), many_ifs(HUSH))), 61)
        self.fails(BadEdit, Program, ("voice",), PUT, many_ifs(()), step=61)


NESTED = ("if", ("most", IN, OUT), (PUT, ("if", ("heard", "A", OUT), (HUSH,), ())), (ASK, HUSH))
PROGRAM = Program(("voice",), PUT, NESTED, HUSH)
STEPS = (PUT, NESTED, PUT, NESTED[2][1], HUSH, ASK, HUSH, HUSH)


class Objects(Case):
    def without(self, step):
        return (PROGRAM - step).edits

    def test_len(self):
        self.assertEqual(len(Program(("voice",))), 0)
        self.assertEqual(len(PROGRAM), 8)

    def test_steps(self):
        self.assertEqual(tuple(PROGRAM[step] for step in range(8)), STEPS)

    def test_steps_that_are_not_there(self):
        for step in (-1, 8, 100, True, None, "0", 1.0):
            for call in (PROGRAM.__getitem__, PROGRAM.__sub__, PROGRAM.swapped):
                self.fails(BadStep, call, step, step=step)
            self.fails(BadStep, PROGRAM.with_amount, step, 5, 1, step=step)
        self.fails(BadStep, Program(("voice",)).__getitem__, 0, step=0)

    def test_not_iterated_over(self):
        with self.assertRaises(TypeError):
            iter(PROGRAM)
        with self.assertRaises(TypeError):
            list(Program(("voice",)))

    def test_plus(self):
        self.assertEqual((PROGRAM + ASK).edits, (PUT, NESTED, HUSH, ASK))
        self.assertEqual((Program(("voice",)) + NESTED).edits, (NESTED,))
        self.assertEqual(PROGRAM.edits, (PUT, NESTED, HUSH))
        self.assertEqual(len(PROGRAM), 8)

    def test_plus_a_bad_edit(self):
        for edit in BAD:
            self.fails(BadEdit, PROGRAM.__add__, edit, step=8)
        self.fails(BadEdit, PROGRAM.__add__, ("if", ("most", IN, OUT), (HUSH,), (ASK, ())), step=11)
        self.fails(BadEdit, Program(("voice",)).__add__, ("if", ("most", IN, OUT), (HUSH,), (ASK, ())), step=3)

    def test_minus(self):
        test = NESTED[1]
        self.assertEqual(self.without(0), (NESTED, HUSH))
        self.assertEqual(self.without(1), (PUT, HUSH))
        self.assertEqual(self.without(2), (PUT, ("if", test, NESTED[2][1:], (ASK, HUSH)), HUSH))
        self.assertEqual(self.without(3), (PUT, ("if", test, (PUT,), (ASK, HUSH)), HUSH))
        self.assertEqual(
            self.without(4), (PUT, ("if", test, (PUT, ("if", ("heard", "A", OUT), (), ())), (ASK, HUSH)), HUSH))
        self.assertEqual(self.without(5), (PUT, ("if", test, NESTED[2], (HUSH,)), HUSH))
        self.assertEqual(self.without(6), (PUT, ("if", test, NESTED[2], (ASK,)), HUSH))
        self.assertEqual(self.without(7), (PUT, NESTED))
        self.assertEqual((PROGRAM - 7).tracks, ("voice",))
        self.assertEqual((Program(("voice",), HUSH) - 0).edits, ())

    def test_swapped(self):
        test = NESTED[1]
        self.assertEqual(PROGRAM.swapped(0).edits, (NESTED, PUT, HUSH))
        self.assertEqual(PROGRAM.swapped(1).edits, (PUT, HUSH, NESTED))
        self.assertEqual(
            PROGRAM.swapped(2).edits, (PUT, ("if", test, (NESTED[2][1], PUT), (ASK, HUSH)), HUSH))
        self.assertEqual(PROGRAM.swapped(5).edits, (PUT, ("if", test, NESTED[2], (HUSH, ASK)), HUSH))
        for step in (3, 4, 6, 7):
            self.fails(BadStep, PROGRAM.swapped, step, step=step)

    def test_with_amount(self):
        places = {
            ("put", "p", "A", IN, OUT): 2, ("drop", "A", IN, OUT): 2, ("only", "A", IN, OUT): 2,
            ("pin", "p", "ahead", "A", IN): 1, ASK: 2, HUSH: 0, ("nudge", "p", 1): 0, ("cut", "p", "q"): 0,
            ("move", "p", "q", "r"): 0, ("copy", "p", "q", "r"): 0, ("if", ("most", IN, OUT), (ASK,), (ASK,)): 2,
            ("if", ("heard", "A", IN), (ASK,), ()): 1, ("if", ("long", "p", "q", 1), (ASK,), (ASK,)): 0}
        for edit, many in places.items():
            program = Program(("voice",), HUSH, edit, PUT)
            for which in (-1, 0, 1, 2, 3):
                if 1 <= which <= many:
                    changed = program.with_amount(1, which, -99)
                    self.assertEqual(changed.edits[0::2], (HUSH, PUT))
                    mark = ("in", "out")[which - 1]
                    self.assertEqual(str(changed[1]), str(edit).replace(
                        str((mark, program_amount(mark))), str((mark, -99)), 1))
                else:
                    self.fails(BadPlace, program.with_amount, 1, which, -99, index=which)

    def test_with_amount_inside(self):
        changed = PROGRAM.with_amount(5, 2, 10 ** 12)
        self.assertEqual(changed[5], ("ask", IN, ("out", 10 ** 12)))
        self.assertEqual(changed - 5, PROGRAM - 5)
        self.assertEqual(PROGRAM.with_amount(3, 1, 3), PROGRAM)
        self.assertEqual(PROGRAM.with_amount(1, 1, 5)[1], ("if", ("most", ("in", 5), OUT), NESTED[2], NESTED[3]))

    def test_arguments_by_name(self):
        self.assertEqual(PROGRAM.with_amount(which=2, amount=9, step=0)[0], ("put", "voice>", "A", IN, ("out", 9)))
        self.assertEqual(PROGRAM.swapped(step=0), PROGRAM.swapped(0))
        self.assertEqual(Program.read(text="tracks: a\n"), Program(tracks=("a",)))

    def test_equal(self):
        again = Program(("voice",), PUT, NESTED, HUSH)
        self.assertTrue(PROGRAM == again)
        self.assertFalse(PROGRAM != again)
        for other in (Program(("two",), HUSH), Program(("voice",), HUSH, PUT), Program(("voice",)),
                      Program(("voice", "two"), PUT, NESTED, HUSH), PROGRAM + HUSH, PROGRAM.with_amount(0, 1, 1)):
            self.assertFalse(PROGRAM == other)
            self.assertTrue(PROGRAM != other)

    def test_equal_to_nothing_else(self):
        for other in (None, 0, "", (), PROGRAM.edits, str(PROGRAM), [], object(), Case):
            self.assertFalse(PROGRAM == other)
            self.assertTrue(PROGRAM != other)
            self.assertFalse(Program(("voice",)) == other)

    def test_never_changes(self):
        text = str(PROGRAM)
        PROGRAM + HUSH, PROGRAM - 1, PROGRAM.swapped(0), PROGRAM.with_amount(0, 1, 7)
        self.assertEqual(str(PROGRAM), text)
        self.assertEqual(PROGRAM.edits, (PUT, NESTED, HUSH))


def program_amount(mark):
    return {"in": 0, "out": 3}[mark]


if __name__ == "__main__":
    unittest.main()
