"""[6]: the text of a sheet, and what is read."""

import unittest

from oracles import Case
from unknowntakes.errors import BadText, Contradiction
from unknowntakes.sheets import Sheet


class Writing(unittest.TestCase):
    def test_text(self):
        sheet = Sheet(("A", "in", "out"), ("out", "A"), (("in", "out", 0), ("zero", "A", -12), ("A", "zero", 900)))
        self.assertEqual(
            str(sheet), "marks: A, in, out\ntakes: out, A\nin - out <= 0\nzero - A <= -12\nA - zero <= 900\n")

    def test_none(self):
        self.assertEqual(str(Sheet((), ())), "marks:\ntakes:\n")
        self.assertEqual(str(Sheet(("a",), ())), "marks: a\ntakes:\n")

    def test_facts_as_they_stand(self):
        sheet = Sheet(("a",), ("a",), (("a", "zero", 5), ("a", "zero", 5), ("a", "zero", 4)))
        self.assertEqual(str(sheet), "marks: a\ntakes: a\na - zero <= 5\na - zero <= 5\na - zero <= 4\n")


class Reading(Case):
    def bad(self, text, line):
        self.fails(BadText, Sheet.read, text, line=line)

    def test_static(self):
        self.assertIsInstance(vars(Sheet)["read"], staticmethod)

    def test_there_and_back(self):
        sheets = (
            Sheet((), ()), Sheet(("a",), ()), Sheet(("a", "b"), ("b", "a")),
            Sheet(("A", "in"), ("A",), (("A", "in", 0), ("in", "zero", 10 ** 12), ("zero", "A", -10 ** 12 + 1),
                                        ("A", "in", 10 ** 13 - 1), ("in", "A", 1), ("in", "A", 1))))
        for sheet in sheets:
            again = Sheet.read(str(sheet))
            self.assertEqual((again.marks, again.takes, again.facts), (sheet.marks, sheet.takes, sheet.facts))
            self.assertEqual(again, sheet)

    def test_empty(self):
        self.bad("", 1)

    def test_marks(self):
        for line in ("", "marks", "marks: ", "mark: a", "Marks: a", "takes: a", "marks:a", "marks:  a", "marks: a,b",
                     "marks: a,  b", "marks: a , b", "marks: a, ", "marks: , a", "marks: a,", "marks: a, a",
                     "marks: zero", "marks: a, zero", "marks: a1", "marks: abcdefghi", "marks: a b", " marks: a",
                     "marks: a ", "marks: a\t", "marks: a\r"):
            self.bad(f"{line}\ntakes:\n", 1)

    def test_takes(self):
        for line in ("", "takes", "takes: ", "marks: a", "takes:a", "takes:  a", "takes: a,b", "takes: a, ",
                     "takes: c", "takes: a, a", "takes: a, c", "takes: zero", "take: a", " takes: a", "takes: a "):
            self.bad(f"marks: a, b\n{line}\n", 2)
            self.bad(f"marks: a, b\n{line}\na - b <= 1\n", 2)

    def test_facts(self):
        for line in ("", " ", "a - b <= 1 ", " a - b <= 1", "a - b <= 1 1", "a-b <= 1", "a - b<=1", "a - b < 1",
                     "a - b = 1", "a + b <= 1", "a - a <= 1", "zero - zero <= 0", "a - c <= 1", "c - a <= 1",
                     "a  - b <= 1", "a - b <=  1", "a - b <=", "a - b", "a", "a - b <= +1", "a - b <= 01",
                     "a - b <= -0", "a - b <= -01", "a - b <= 00", "a - b <= --1", "a - b <= 1.0", "a - b <= 1_0",
                     "a - b <= x", "a - b <= -", "a - b <= 10000000000000", "a - b <= -10000000000000",
                     "a - b <= 1\t", "a\t- b <= 1", "marks: a", "a - b >= 1", "a - b <= 0x1", "- b <= 1",
                     "a - b <= \u0661", "a - b <= \u00b2"):
            self.bad(f"marks: a, b\ntakes: a\n{line}\n", 3)
            self.bad(f"marks: a, b\ntakes: a\na - b <= 1\n{line}\nb - b <= 1\n", 4)

    def test_numbers(self):
        for number in (0, 7, -7, 10, -10, 100, 9999999999999, -1000000000000):
            text = f"marks: a\ntakes:\nzero - a <= {number}\n"
            self.assertEqual(Sheet.read(text).facts, (("zero", "a", number),))
        self.assertEqual(Sheet.read("marks: a\ntakes:\nzero - a <= -9999999999999\n").least, (9999999999999,))

    def test_missing_newline(self):
        self.bad("marks: a", 1)
        self.bad("marks:", 1)
        self.bad("marks: a\ntakes: a", 2)
        self.bad("marks: a\ntakes: a\na - zero <= 1", 3)
        self.bad("marks: a\ntakes: a\na - zero <= 1\na - zero <= 1", 4)
        self.bad("marks: a\ntakes: a\n ", 3)

    def test_missing_lines(self):
        self.bad("marks: a\n", 2)
        self.bad("marks:\n", 2)

    def test_empty_lines(self):
        self.bad("\n", 1)
        self.bad("\nmarks: a\ntakes:\n", 1)
        self.bad("marks: a\n\ntakes:\n", 2)
        self.bad("marks: a\ntakes:\n\n", 3)
        self.bad("marks: a\ntakes:\n\na - zero <= 1\n", 3)

    def test_the_first_bad_line(self):
        self.bad("marks: 1\ntakes: c\na - a <= 1\nx", 1)
        self.bad("marks: a\ntakes: c\na - a <= 1\nx", 2)
        self.bad("marks: a\ntakes: a\na - zero <= 1\na - a <= 1\nx", 4)
        self.bad("marks: a, a", 1)
        self.bad("marks: a\ntakes: b", 2)
        self.bad("marks: a\ntakes: a\na - a <= 1\na - zero <= 1", 3)

    def test_only_newlines_end_lines(self):
        self.bad("marks: a\rtakes:\n", 1)
        self.bad("marks: a\r\ntakes:\r\n", 1)
        self.bad("marks: a\x0btakes:\n", 1)

    def test_contradiction_behind_bad_text(self):
        ruin = "marks: a, b\ntakes: a\na - zero <= 1\nzero - b <= -3\nb - a <= 1\n"
        with self.assertRaises(Contradiction) as caught:
            Sheet.read(ruin)
        ring = caught.exception.ring
        self.assertEqual(sorted(ring), [("a", "zero", 1), ("b", "a", 1), ("zero", "b", -3)])
        self.bad(ruin + "b - b <= 1\n", 6)
        self.bad(ruin + "b - a <= 1", 6)
        self.bad(ruin + "\n", 6)

    def test_more_than_the_limits(self):
        marks = ", ".join("abcdefghij")
        facts = "".join(f"a - zero <= {number}\n" for number in range(50))
        sheet = Sheet.read(f"marks: {marks}\ntakes: {marks}\n{facts}")
        self.assertEqual((len(sheet.marks), len(sheet.facts)), (10, 50))


if __name__ == "__main__":
    unittest.main()
