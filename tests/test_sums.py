"""[18] to [20]: spans, pairs, gaps and lags at plain sheets and programs, and what is refused."""

import unittest

from oracles import Case
from unknowntakes.errors import BadPairs, BadPlace, UnknownName
from unknowntakes.programs import Program
from unknowntakes.sheets import Sheet
from unknowntakes.sums import Sum, gap, lag, pairs_bound, span

BIG = 10 ** 12
START, END = ("zero", 0), ("A", 0)


def read(*lines, tracks="v"):
    return Program.read(f"tracks: {tracks}\n" + "".join(f"{line}\n" for line in lines))


def fields(total):
    return (total.lowest, total.highest, total.lowest_at, total.highest_at)


class Spans(Case):
    FACTS = (("a", "b", 0), ("b", "A", 0), ("c", "A", 0), ("b", "c", 5), ("A", "a", 9))
    SHEET = Sheet(("A", "a", "b", "c"), ("A",), FACTS)
    PLUS, MINUS = (("b", 0), ("A", 0)), (("a", 0), ("c", 0))

    def check(self, sheet, plus, minus, greatest, recording):
        found = span(sheet, plus, minus)
        self.assertEqual((found[0], found[2]), (greatest, recording))
        self.assertIsInstance(found[1], tuple)
        self.assertEqual(pairs_bound(sheet, plus, minus, found[1]), greatest)
        for x, y, many in found[1]:
            self.assertTrue(x != y and many >= 1)

    def test_document_example(self):
        self.check(self.SHEET, self.PLUS, self.MINUS, 14, (9, 0, 5, 0))

    def test_amounts(self):
        self.check(self.SHEET, (("b", 7), ("A", -100)), (("a", 20), ("c", BIG)), 14 + 7 - 100 - 20 - BIG, (9, 0, 5, 0))
        self.check(self.SHEET, (("zero", 7),), (("zero", 9),), -2, (0, 0, 0, 0))
        self.check(self.SHEET, (("A", 7),), (("A", 9),), -2, (0, 0, 0, 0))

    def test_nothing_at_all(self):
        self.assertEqual(span(self.SHEET, (), ()), (0, (), (0, 0, 0, 0)))
        self.assertEqual(span(Sheet((), ()), (("zero", 3),), (("zero", 1),)), (2, (), ()))

    def test_no_greatest(self):
        self.assertIsNone(span(self.SHEET, (("A", 0),), (START,)))
        self.assertIsNone(span(self.SHEET, (("A", 0), ("b", 0)), (("a", 0), START)))
        self.check(self.SHEET, (START,), (("A", 0),), 0, (0, 0, 0, 0))

    def test_zero_is_one_of_the_names(self):
        sheet = Sheet(("m", "n"), (), (("m", "zero", 9), ("zero", "n", -4)))
        self.check(sheet, (("m", 0), START), (("n", 0), START), 5, (9, 4))
        self.check(sheet, (START, START), (("n", 0), ("n", 0)), -8, (0, 4))

    def test_the_least_recording_that_has_it(self):
        sheet = Sheet(("m", "n", "o"), (), (("m", "n", 3), ("n", "o", 2), ("zero", "m", -1)))
        self.check(sheet, (("m", 0),), (("o", 0),), 5, (5, 2, 0))
        self.check(sheet, (("m", 0), ("m", 0)), (("n", 0), ("n", 0)), 6, (3, 0, 0))

    def test_places_that_stand_several_times(self):
        sheet = Sheet(("m", "n", "o"), (), (("m", "zero", 9), ("n", "m", 1), ("m", "o", 7)))
        self.check(sheet, (("m", 0),) * 20, (("o", 0),) * 20, 140, (7, 0, 0))
        self.check(sheet, (("m", 0), ("n", 0), ("m", 1)), (("o", 0), START, START), 7 + 9 + 10 + 1, (9, 10, 2))

    def test_pairs(self):
        across = (("A", "a", 1), ("b", "c", 1))
        self.assertEqual(pairs_bound(self.SHEET, self.PLUS, self.MINUS, across), 14)
        self.assertEqual(pairs_bound(self.SHEET, self.PLUS, self.MINUS, across[::-1]), 14)
        self.assertEqual(pairs_bound(self.SHEET, self.PLUS, self.MINUS, (("b", "a", 1), ("A", "c", 1))), 23)
        more = across + (("A", "b", 2), ("b", "A", 2))
        self.assertEqual(pairs_bound(self.SHEET, self.PLUS, self.MINUS, more), 14 + 2 * 9 + 2 * 0)
        self.assertEqual(pairs_bound(self.SHEET, (("b", 3), ("A", 0)), (("a", 0), ("c", 10)), across), 7)
        self.assertEqual(pairs_bound(self.SHEET, (), (), ()), 0)
        twice = (("A", "a", 1), ("A", "a", 1))
        self.assertEqual(pairs_bound(self.SHEET, (("A", 0),) * 2, (("a", 0),) * 2, twice), 18)

    def test_pairs_with_zero_make_up_for_the_rest(self):
        sheet = Sheet(("m", "n"), (), (("m", "zero", 9), ("zero", "n", -4)))
        self.assertEqual(pairs_bound(sheet, (("m", 0),), (("n", 0),), (("m", "zero", 1), ("zero", "n", 1))), 5)

    def test_no_such_pairs(self):
        for pairs in (
                (), (("A", "a", 1),), (("A", "a", 1), ("b", "c", 2)), (("A", "a", 2), ("b", "c", 1)),
                (("a", "A", 1), ("b", "c", 1)), (("A", "a", 1), ("c", "b", 1)), (("A", "A", 1), ("b", "c", 1)),
                (("A", "a", 1), ("b", "c", 1), ("b", "b", 1)), (("A", "a", 1), ("b", "c", 1), ("zero", "zero", 1)),
                (("A", "a", 1), ("b", "c", 1), ("A", "c", 0)), (("A", "a", True), ("b", "c", 1)),
                (("A", "a", 1), ("b", "c", 1), ("A", "a", -1), ("A", "a", 1)), (("A", "a", "1"), ("b", "c", 1)),
                (("A", "x", 1), ("b", "c", 1)), (("A", "a"), ("b", "c", 1)), (("A", "a", 1, 1), ("b", "c", 1)),
                (("A", "a", 1), None), (("A", "a", 1), "bc1"), (["A", "a", 1], ("b", "c", 1)), ((["A"], "a", 1),),
                (("A", "a", 1.0), ("b", "c", 1)), (("A", "c", 1), ("b", "c", 1)), ((), ())):
            self.assertIsNone(pairs_bound(self.SHEET, self.PLUS, self.MINUS, pairs))

    def test_pairs_without_a_greatest(self):
        self.assertIsNone(pairs_bound(self.SHEET, (("A", 0),), (START,), (("A", "zero", 1),)))
        self.assertIsNone(pairs_bound(
            self.SHEET, self.PLUS, self.MINUS, (("A", "a", 1), ("b", "zero", 1), ("zero", "c", 1))))

    def test_errors(self):
        for call in (span, lambda *args: pairs_bound(*args, ()), lambda *args: pairs_bound(*args, ("?",))):
            for bad in (("x", 0), (), ("A",), ("A", 0, 0), ("A", True), ("A", "0"), (0, "A"), (None, None), (["A"], 0)):
                self.fails(BadPlace, call, self.SHEET, (bad,), (), index=0)
                self.fails(BadPlace, call, self.SHEET, (END, END, bad, bad), (bad,), index=2)
                self.fails(BadPlace, call, self.SHEET, (END, END), (END, bad), index=3)
                self.fails(BadPlace, call, self.SHEET, (), (END, bad, bad), index=1)
            self.fails(BadPairs, call, self.SHEET, (END,), ())
            self.fails(BadPairs, call, self.SHEET, (), (END, END))
            self.fails(BadPairs, call, self.SHEET, (END, END), (END,))

    def test_arguments_by_name(self):
        self.assertEqual(span(minus=self.MINUS, plus=self.PLUS, sheet=self.SHEET)[0], 14)
        self.assertEqual(pairs_bound(pairs=(), minus=(), plus=(), sheet=self.SHEET), 0)

    def test_numbers_of_any_size(self):
        sheet = Sheet(("m", "n"), (), (("m", "n", 10 ** 40),))
        self.check(sheet, (("m", 0),), (("n", 10 ** 50),), 10 ** 40 - 10 ** 50, (10 ** 40, 0))


class Sums(unittest.TestCase):
    def test_fields(self):
        self.assertEqual(fields(Sum(1, 2, (3,), (4,))), (1, 2, (3,), (4,)))
        self.assertEqual(fields(Sum(highest_at=None, lowest_at=(3,), highest=None, lowest=1)), (1, None, (3,), None))


class Gaps(Case):
    SHEET = Sheet(("A", "m", "n"), ("A",), (("m", "n", 0), ("n", "A", 0), ("n", "m", 7)))

    def test_length_of_a_track(self):
        self.assertEqual(fields(gap(self.SHEET, read("put v> A m n"), "<v", "v>")), (0, 7, (0, 0, 0), (7, 0, 7)))
        self.assertEqual(fields(gap(self.SHEET, read("put v> A m n"), "v>", "<v")), (-7, 0, (7, 0, 7), (0, 0, 0)))
        self.assertEqual(fields(gap(self.SHEET, read("hush v> 60", "hush v> 3"), "<v", "v>")),
                         (63, 63, (0, 0, 0), (0, 0, 0)))

    def test_no_end(self):
        self.assertEqual(fields(gap(self.SHEET, read("put v> A n A"), "<v", "v>")), (0, None, (0, 0, 0), None))
        self.assertEqual(fields(gap(self.SHEET, read("put v> A n A"), "v>", "<v")), (None, 0, None, (0, 0, 0)))
        program = read("put v> A 0 m", "put w> A n A", tracks="v, w")
        self.assertEqual(fields(gap(self.SHEET, program, "v>", "w>")), (None, None, None, None))

    def test_pins(self):
        program = read("put v> A 0 A", "pin p ahead A m", "hush p 5", "pin q behind A n-1")
        self.assertEqual(fields(gap(self.SHEET, program, "p", "q")), (0, 12, (2, 1, 1), (7, 0, 7)))

    def test_pins_that_stand_at_some_recordings(self):
        program = read("put v> A 0 A", "if most 3 m", "  pin p ahead A m-3", "end")
        self.assertEqual(fields(gap(self.SHEET, program, "<v", "p")), (0, None, (3, 3, 3), None))

    def test_on_two_tracks(self):
        program = read("put v> A m n", "put w> A 0 m", "hush v> 1", tracks="v, w")
        self.assertEqual(fields(gap(self.SHEET, program, "v>", "w>")), (-8, None, (7, 0, 7), None))
        self.assertEqual(fields(gap(self.SHEET, program, "<v", "<w")), (0, 0, (0, 0, 0), (0, 0, 0)))

    def test_sounds_alone(self):
        program = read("put v> A 3 n", "ask n 6")
        self.assertEqual(fields(gap(self.SHEET, program, "<v", "v>")), (0, 3, (3, 0, 3), (6, 0, 6)))

    def test_none(self):
        self.assertIsNone(gap(self.SHEET, read("put v> A 0 A"), "p", "v>"))
        self.assertIsNone(gap(self.SHEET, read("put v> A 0 A"), "<v", "q"))
        self.assertIsNone(gap(self.SHEET, read("hush p 1"), "<v", "v>"))
        self.assertIsNone(gap(self.SHEET, read("ask 1 0"), "<v", "v>"))

    def test_errors(self):
        program = read("hush v> 1")
        for pin in ("<w", "w>", "<A", "A>", "<", ">", "<v>"):
            self.fails(UnknownName, gap, self.SHEET, program, pin, "x>", name=pin)
            self.fails(UnknownName, gap, self.SHEET, program, "<v", pin, name=pin)
            self.fails(UnknownName, gap, self.SHEET, program, "never", pin, name=pin)
        self.fails(UnknownName, gap, self.SHEET, read("put v> B 0 1"), "<w", "v>", name="B")

    def test_arguments_by_name(self):
        self.assertEqual(gap(q="v>", p="<v", program=read("hush v> 1"), sheet=self.SHEET).highest, 1)

    def test_large_numbers(self):
        sheet = Sheet(("A", "m"), ("A",), (("m", "zero", BIG), ("zero", "A", -2 * BIG)))
        program = read(f"put v> A m m+{BIG // 2}", "copy <v v> v>", "drop A 0 5")
        self.assertEqual(fields(gap(sheet, program, "<v", "v>")), (BIG - 10, BIG, (2 * BIG, 0), (2 * BIG, 5)))


class Lags(Case):
    FACTS = (("in", "out", -1), ("out", "in", 4), ("out", "A", 0), ("out", "B", 0))
    SHEET = Sheet(("A", "B", "in", "out"), ("A", "B"), FACTS)
    APART = read("put one> A 0 A", "put two> B 0 B", tracks="one, two")
    ONE, TWO = ("one", "A"), ("two", "B")

    def test_document_example(self):
        program = Program.read(str(self.APART) + "drop A in out\n")
        self.assertEqual(fields(lag(self.SHEET, program, self.ONE, self.TWO, START, END)),
                         (-4, 0, (5, 5, 0, 4), (2, 2, 1, 2)))
        self.assertEqual(fields(lag(self.SHEET, program, self.TWO, self.ONE, START, END)),
                         (0, 4, (2, 2, 1, 2), (5, 5, 0, 4)))

    def test_in_time(self):
        self.assertEqual(fields(lag(self.SHEET, self.APART, self.ONE, self.TWO, START, END)),
                         (0, 0, (1, 1, 0, 1), (1, 1, 0, 1)))
        both = Program.read(str(self.APART) + "drop A in out\ndrop B in out\n")
        self.assertEqual(fields(lag(self.SHEET, both, self.ONE, self.TWO, START, END))[:2], (0, 0))

    def test_hush_ahead(self):
        program = Program.read(str(self.APART) + "hush <two 7\nhush one> 9\n")
        self.assertEqual(fields(lag(self.SHEET, program, self.ONE, self.TWO, START, END))[:2], (-7, -7))

    def test_each_place_where_a_moment_is_heard(self):
        program = read("put v> A 0 A", "hush v> 2", "put v> A 0 A")
        sheet = Sheet(("A",), ("A",), (("A", "zero", 5), ("zero", "A", -1)))
        self.assertEqual(fields(lag(sheet, program, ("v", "A"), ("v", "A"), START, END)), (-7, 7, (5,), (5,)))

    def test_range(self):
        program = Program.read(str(self.APART) + "drop A in out\n")
        self.assertEqual(fields(lag(self.SHEET, program, self.ONE, self.TWO, START, ("in", 0))),
                         (0, 0, (2, 2, 1, 2), (2, 2, 1, 2)))
        self.assertEqual(fields(lag(self.SHEET, program, self.ONE, self.TWO, ("out", 0), END)),
                         (-4, -1, (5, 5, 0, 4), (2, 2, 0, 1)))
        self.assertIsNone(lag(self.SHEET, program, self.ONE, self.TWO, ("in", 0), ("out", 0)))
        self.assertIsNone(lag(self.SHEET, program, self.ONE, self.TWO, END, START))
        self.assertEqual(lag(self.SHEET, program, self.ONE, self.TWO, ("zero", -BIG), ("A", BIG)).lowest, -4)

    def test_the_range_is_not_kept_to_the_take(self):
        program = read("put v> B 3 B")
        found = lag(self.SHEET, program, ("v", "B"), ("v", "B"), ("A", 0), ("A", 1))
        self.assertEqual(fields(found), (0, 0, (3, 4, 0, 1), (3, 4, 0, 1)))

    def test_none(self):
        self.assertIsNone(lag(self.SHEET, self.APART, ("one", "B"), self.TWO, START, END))
        self.assertIsNone(lag(self.SHEET, self.APART, self.ONE, ("two", "A"), START, END))
        self.assertIsNone(lag(self.SHEET, read("hush p 1", tracks="one, two"), self.ONE, self.TWO, START, END))

    def test_no_end(self):
        program = Program.read(str(self.APART) + "put <one A 0 in\n")
        self.assertEqual(fields(lag(self.SHEET, program, self.ONE, self.TWO, ("in", 0), END)),
                         (0, None, (1, 1, 0, 1), None))

    def test_errors(self):
        program = self.APART
        bad = ("nope", "nope")
        self.fails(UnknownName, lag, self.SHEET, read("put v> C 0 1"), bad, bad, 0, 0, name="C")
        self.fails(UnknownName, lag, self.SHEET, program, bad, ("x", "y"), 0, 0, name="nope")
        self.fails(UnknownName, lag, self.SHEET, program, ("three", "A"), ("x", "y"), 0, 0, name="three")
        self.fails(UnknownName, lag, self.SHEET, program, ("one", "in"), ("x", "y"), 0, 0, name="in")
        self.fails(UnknownName, lag, self.SHEET, program, self.ONE, ("x", "y"), 0, 0, name="x")
        self.fails(UnknownName, lag, self.SHEET, program, self.ONE, ("two", "zero"), 0, 0, name="zero")
        for place in (("x", 0), (), ("in",), ("in", True), ("in", 0, 0), (0, "in"), (None, 0), (["in"], 0)):
            self.fails(BadPlace, lag, self.SHEET, program, self.ONE, self.TWO, place, (), index=1)
            self.fails(BadPlace, lag, self.SHEET, program, self.ONE, self.TWO, START, place, index=2)

    def test_arguments_by_name(self):
        found = lag(Q=END, P=START, two=self.TWO, one=self.ONE, program=self.APART, sheet=self.SHEET)
        self.assertEqual(found.highest, 0)


if __name__ == "__main__":
    unittest.main()
