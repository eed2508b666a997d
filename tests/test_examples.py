"""The examples of the document, as written there, and those of README.md."""

import doctest
import unittest
from pathlib import Path

README = Path(__file__).resolve().parent.parent / "README.md"

SHEETS = """
>>> from unknowntakes.sheets import Sheet
>>> sheet = Sheet(("A", "in", "out"), ("A",), (("in", "out", 0), ("out", "A", -2), ("A", "zero", 9)))
>>> (sheet["in", "A"], sheet["A", "in"], sheet.least, (9, 3, 7) in sheet, sheet.chain("in", "A"))
(-2, 9, (2, 0, 0), True, [('in', 'out', 0), ('out', 'A', -2)])
"""

FAMILIES = """
>>> from unknowntakes.families import Family
>>> from unknowntakes.sheets import Sheet
>>> first = Family(Sheet(("m",), (), (("m", "zero", 5),)))
>>> second = Family(Sheet(("m",), (), (("zero", "m", -2), ("m", "zero", 9))))
>>> ((first - second).least, (second - first).least, (first | second).hull["m", "zero"], first.near((9,)))
((0,), (6,), 9, (4, (5,)))
"""


class Examples(unittest.TestCase):
    def check(self, text, many):
        test = doctest.DocTestParser().get_doctest(text, {}, self.id(), None, None)
        self.assertEqual(len(test.examples), many)
        said = []
        failed, _ = doctest.DocTestRunner(verbose=False).run(test, out=said.append)
        self.assertEqual(failed, 0, "".join(said))

    def test_sheets(self):
        self.check(SHEETS, 3)

    def test_families(self):
        self.check(FAMILIES, 5)

    def test_readme(self):
        text = README.read_text(encoding="utf-8")
        plain = "\n".join("" if line.startswith("```") else line for line in text.split("\n"))
        self.check(plain, plain.count(">>>"))


if __name__ == "__main__":
    unittest.main()
