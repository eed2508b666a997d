"""The examples of the document, as written there, and those of README.md."""

import doctest
import unittest
from pathlib import Path

README = Path(__file__).resolve().parent.parent / "README.md"

SHEETS = """
>>> from unknowntakes.sheets import Sheet
>>> sheet = Sheet(("A", "in", "out"), ("A",), (("in", "out", 0), ("out", "A", -2), ("A", "zero", 9)))
>>> (sheet["in", "A"], sheet["A", "in"], sheet.least, (9, 3, 7) in sheet, sheet.chain("in", "A"))
(-2, 9, (2, 0, 0), True, [('in', 'out', 0), ('out', 'A', -2)])
"""

FAMILIES = """
>>> from unknowntakes.families import Family
>>> from unknowntakes.sheets import Sheet
>>> first = Family(Sheet(("m",), (), (("m", "zero", 5),)))
>>> second = Family(Sheet(("m",), (), (("zero", "m", -2), ("m", "zero", 9))))
>>> ((first - second).least, (second - first).least, (first | second).hull["m", "zero"], first.near((9,)))
((0,), (6,), 9, (4, (5,)))
"""


TEXTS = """
>>> from unknowntakes.programs import Program
>>> program = Program(("voice",), ("put", "voice>", "A", ("in", 0), ("out", 3)))
>>> more = program + ("if", ("heard", "A", ("zero", 7)), (("hush", "<voice", 2),), ())
>>> (str(more), len(more), more - 1 == program, Program.read(str(more)) == more)
('tracks: voice\\nput voice> A in out+3\\nif heard A 7\\n  hush <voice 2\\nend\\n', 3, True, True)
"""

PLAYING = """
>>> from unknowntakes.playing import cue_sheet, standing
>>> from unknowntakes.programs import Program
>>> from unknowntakes.sheets import Sheet
>>> program = Program.read("tracks: voice\\nput voice> A 0 10\\npin p ahead A 3\\npin q behind A 5\\ncut p q\\n")
>>> sheet = Sheet(("A",), ("A",))
>>> (program(sheet, (12,)), program(sheet, (9,)), standing(sheet, program, (10,)))
(('sound', ((('A', 0, 3), ('A', 6, 10)),)), ('wrong', 0, 'late'), \
('sound', ((('A', 0, 3), ('pin', 'p'), ('pin', 'q'), ('A', 6, 10)),)))

>>> from unknowntakes.playing import cue_sheet
>>> from unknowntakes.programs import Program
>>> cue_sheet(Program(("voice",)), ("sound", ((("A", 2, 5), ("", 0, 4)),)))
'voice:\\n  1 A                     0              2              5\\n  2 hush                  3              0              4\\n'
"""

FINDINGS = """
>>> from unknowntakes.findings import ask, times
>>> from unknowntakes.programs import Program
>>> from unknowntakes.sheets import Sheet
>>> sheet = Sheet(("A", "in", "out"), ("A",), (("in", "out", 0), ("out", "A", 0)))
>>> program = Program(("voice",), ("put", "voice>", "A", ("in", 0), ("out", 3)))
>>> finding = ask(sheet, program, ("wrong",))
>>> (finding.state, finding.least_bad, finding.least_good, finding.bad.near((10, 2, 5)))
('open', (0, 0, 0), (3, 0, 0), (2, (8, 0, 6)))

>>> from unknowntakes.findings import times
>>> from unknowntakes.programs import Program
>>> from unknowntakes.sheets import Sheet
>>> sheet = Sheet(("A", "m"), ("A",), (("m", "A", 0),))
>>> program = Program.read("tracks: voice\\nput voice> A 0 m\\nput voice> A m-1 A\\n")
>>> (times(sheet, program, "A", ("zero", 0), ("A", 0)))
((1, (2, 1), 1), (2, (1, 1), 0))
"""

SUMS = """
>>> from unknowntakes.programs import Program
>>> from unknowntakes.sheets import Sheet
>>> from unknowntakes.sums import gap
>>> facts = (("a", "b", 0), ("b", "A", 0), ("c", "A", 0), ("b", "c", 5), ("A", "a", 9))
>>> sheet = Sheet(("A", "a", "b", "c"), ("A",), facts)
>>> program = Program.read("tracks: voice\\nput voice> A a b\\nput voice> A c A\\n")
>>> total = gap(sheet, program, "<voice", "voice>")
>>> (total.lowest, total.highest, total.highest_at)
(0, 14, (9, 0, 5, 0))

>>> from unknowntakes.sheets import Sheet
>>> from unknowntakes.sums import pairs_bound, span
>>> facts = (("a", "b", 0), ("b", "A", 0), ("c", "A", 0), ("b", "c", 5), ("A", "a", 9))
>>> sheet = Sheet(("A", "a", "b", "c"), ("A",), facts)
>>> ends = ((("b", 0), ("A", 0)), (("a", 0), ("c", 0)))
>>> across = pairs_bound(sheet, ends[0], ends[1], (("A", "a", 1), ("b", "c", 1)))
>>> (across, pairs_bound(sheet, ends[0], ends[1], (("b", "a", 1), ("A", "c", 1))), span(sheet, ends[0], ends[1])[0])
(14, 23, 14)

>>> from unknowntakes.programs import Program
>>> from unknowntakes.sheets import Sheet
>>> from unknowntakes.sums import lag
>>> facts = (("in", "out", -1), ("out", "in", 4), ("out", "A", 0), ("out", "B", 0))
>>> sheet = Sheet(("A", "B", "in", "out"), ("A", "B"), facts)
>>> program = Program.read("tracks: one, two\\nput one> A 0 A\\nput two> B 0 B\\ndrop A in out\\n")
>>> late = lag(sheet, program, ("one", "A"), ("two", "B"), ("zero", 0), ("A", 0))
>>> (late.lowest, late.lowest_at, late.highest, late.highest_at)
(-4, (5, 5, 0, 4), 0, (2, 2, 1, 2))
"""


COMPARED = """
>>> from unknowntakes.compared import compare, hangs, told
>>> from unknowntakes.programs import Program
>>> from unknowntakes.sheets import Sheet
>>> first = Program.read("tracks: voice\\nput voice> A 0 in\\nput voice> A out A\\n")
>>> second = Program.read("tracks: voice\\nput voice> A 0 A\\ndrop A in out\\n")
>>> loose = Sheet(("A", "in", "out"), ("A",), (("in", "A", 0), ("out", "A", 0)))
>>> sheet = loose.with_fact("in", "out", 0)
>>> (compare(sheet, first, second, further=True).state, compare(loose, first, second).least_bad)
('sure', (1, 1, 0))

>>> from unknowntakes.compared import compare
>>> from unknowntakes.programs import Program
>>> from unknowntakes.sheets import Sheet
>>> sheet = Sheet(("A",), ("A",), (("zero", "A", -9),))
>>> first = Program.read("tracks: voice\\nput voice> A 0 9\\npin p ahead A 3\\npin q ahead A 3\\n")
>>> second = first + ("nudge", "p", 1) + ("nudge", "p", -1)
>>> (compare(sheet, first, second).state, compare(sheet, first, second, further=True).state)
('sure', 'never')

>>> from unknowntakes.compared import hangs, told
>>> from unknowntakes.programs import Program
>>> from unknowntakes.sheets import Sheet
>>> sheet = Sheet(("A", "m"), ("A",), (("m", "A", 0),))
>>> program = Program.read("tracks: voice\\nput voice> A 0 m\\nput voice> A m A\\n")
>>> (hangs(sheet, program, "m"), told(sheet, program, "m"), told(sheet, program, "A"))
(None, ((1, 0), (1, 1)), None)
"""

MENDS = """
>>> from unknowntakes.findings import ask
>>> from unknowntakes.mends import fewest, gentle, loosest, safe_amounts, settles
>>> from unknowntakes.programs import Program
>>> from unknowntakes.sheets import Sheet
>>> sheet = Sheet(("A", "in", "out"), ("A",), (("in", "out", 0), ("out", "A", 0)))
>>> program = Program(("voice",), ("put", "voice>", "A", ("in", 0), ("out", 3)))
>>> finding = ask(sheet, program, ("wrong",))
>>> (loosest(finding, "A", "out"), gentle(finding), settles(finding, "A"), fewest(finding))
(('fact', 3, (2, 0, 0), (3, 0, 0)), ('facts', [('out', 'A', -3)]), ((3, 0, 1), (3, 0, 0)), ('A', 'out'))

>>> from unknowntakes.mends import safe_amounts
>>> from unknowntakes.programs import Program
>>> from unknowntakes.sheets import Sheet
>>> sheet = Sheet(("A", "in", "out"), ("A",), (("in", "out", 0), ("out", "A", -2)))
>>> program = Program(("voice",), ("put", "voice>", "A", ("in", 0), ("out", 9)))
>>> safe_amounts(sheet, program, 0, 2, ("wrong",))
[(0, 2)]
"""

TREES = """
>>> from unknowntakes.programs import Program
>>> from unknowntakes.sheets import Sheet
>>> from unknowntakes.trees import follow, is_outcome_tree
>>> sheet = Sheet(("A",), ("A",))
>>> program = Program(("voice",), ("put", "voice>", "A", ("zero", 1), ("zero", 3)))
>>> sound = ("sound", ((("A", ("zero", 1), ("zero", 3)),),))
>>> tree = [("ask", "zero", "A", -3, 1, 2), sound, ("wrong", 0, "late")]
>>> (is_outcome_tree(sheet, program, tree), follow(sheet, tree, (2,)))
(True, ('wrong', 0, 'late'))
"""

TABLES = """
>>> from unknowntakes.tables import Table
>>> table = Table("voice")
>>> first = [table.take("A"), table.mark("m"), table.edit(("put", "voice>", "A", ("m", 0), ("m", 5)))]
>>> first.append(table.watch("late", ("wrong",)))
>>> (first, table.know("m", "A", -5), table.state_of("late"), table.undo(), table.state_of("late"))
([[], [], [], []], ['late'], 'sure', ['late'], 'open')
"""


class Examples(unittest.TestCase):
    def check(self, text, many):
        test = doctest.DocTestParser().get_doctest(text, {}, self.id(), None, None)
        self.assertEqual(len(test.examples), many)
        said = []
        failed, _ = doctest.DocTestRunner(verbose=False).run(test, out=said.append)
        self.assertEqual(failed, 0, "".join(said))

    def test_sheets(self):
        self.check(SHEETS, 3)

    def test_families(self):
        self.check(FAMILIES, 5)

    def test_texts(self):
        self.check(TEXTS, 4)

    def test_playing(self):
        self.check(PLAYING, 9)

    def test_findings(self):
        self.check(FINDINGS, 13)

    def test_sums(self):
        self.check(SUMS, 23)

    def test_compared(self):
        self.check(COMPARED, 21)

    def test_mends(self):
        self.check(MENDS, 14)

    def test_trees(self):
        self.check(TREES, 8)

    def test_tables(self):
        self.check(TABLES, 5)

    def test_readme(self):
        text = README.read_text(encoding="utf-8")
        plain = "\n".join("" if line.startswith("```") else line for line in text.split("\n"))
        self.check(plain, plain.count(">>>"))


if __name__ == "__main__":
    unittest.main()
