"""[11]: the text of a program, and what is read."""

import random
import unittest

from drawn import Draw, sheet_of
from oracles import Case
from test_programs import GOOD, NESTED, PROGRAM
from unknowntakes.errors import BadText
from unknowntakes.programs import Program

IN, OUT = ("in", 0), ("out", 3)

# Lines of edits that may stand behind "tracks: voice, two", and that no text has in another way.
LINES = (
    "put voice> A in out+3", "put <two A in in", "put p zero -7 x+1000000000000", "hush voice> 0", "hush p 60",
    "drop A in out+3", "only A out+3 in", "pin p ahead A in", "pin zero behind A 0", "nudge p 3", "nudge p -3",
    "nudge p 0", "cut p q", "cut <voice voice>", "move p q voice>", "copy <two two> r", "ask in out-3",
    "ask 0 -9999999999999",
)

# What no line of an edit is.
BAD_LINES = (
    "", " ", "put", "put voice> A in", "put voice> A in out+3 1", "put  voice> A in out", "put voice> A in out ",
    " put voice> A in out", "put voice>  A in out", "put other> A in out", "put <other A in out", "put voice A1 in out",
    "put voice> A in+0 out", "put voice> A in-0 out", "put voice> A in+03 out", "put voice> A in++3 out",
    "put voice> A in+-3 out", "put voice> A in--3 out", "put voice> A +3 out", "put voice> A 03 out",
    "put voice> A -0 out", "put voice> A zero out", "put voice> A zero+3 out", "put voice> A in+ out",
    "put voice> A in- out", "put voice> A in+10000000000000 out", "put voice> A 10000000000000 out",
    "put voice> A in+x out", "put voice> A in3 out", "put voice> A 3in out", "put voice> A in+3+4 out",
    "put voice> A in+1_0 out", "put voice> A in+3.0 out", "put voice> A abcdefghi out", "put voice> A - out",
    "put voice> A + out", "put voice> A in,out", "put voice> <voice in out", "put voice> A in out\t",
    "Put voice> A in out", "hush p", "hush p 61", "hush p -1", "hush p +4", "hush p 04", "hush p x", "hush p 4 4",
    "hush other> 4", "drop A in", "drop A in out out", "drop voice> in out", "only A", "only A in out+0",
    "pin <voice ahead A in", "pin p front A in", "pin p ahead A", "pin p ahead A in out", "pin p A ahead in",
    "nudge <voice 1", "nudge p 4", "nudge p -4", "nudge p +1", "nudge p -0", "nudge p", "nudge p in",
    "cut p", "cut p q r", "cut p other>", "move p q", "move p q r s", "copy p q", "copy p q a-b", "ask in",
    "ask in out out", "ask in out+0", "if", "if ", "if most in", "if most in out ", "if heard A", "if heard in A in",
    "if long p q", "if long p q 3", "if long p q -1", "if long p other> 1", "if ask in out", "if (most in out)",
    "if most in+0 out", "most in out", "heard A in", "long p q 1", "tracks: voice", "# put", "put voice> A in out;",
    "put voice> A in \u0663", "hush p \u0664",
)


class Writing(unittest.TestCase):
    def test_tracks(self):
        self.assertEqual(str(Program(("voice",))), "tracks: voice\n")
        self.assertEqual(str(Program(("b", "a", "zero"))), "tracks: b, a, zero\n")

    def test_each_line(self):
        edits = tuple(Program.read(f"tracks: voice, two\n{line}\n")[0] for line in LINES)
        self.assertEqual(edits, (
            ("put", "voice>", "A", IN, OUT), ("put", "<two", "A", IN, IN),
            ("put", "p", "zero", ("zero", -7), ("x", 10 ** 12)), ("hush", "voice>", 0), ("hush", "p", 60),
            ("drop", "A", IN, OUT), ("only", "A", OUT, IN), ("pin", "p", "ahead", "A", IN),
            ("pin", "zero", "behind", "A", ("zero", 0)), ("nudge", "p", 3), ("nudge", "p", -3), ("nudge", "p", 0),
            ("cut", "p", "q"), ("cut", "<voice", "voice>"), ("move", "p", "q", "voice>"),
            ("copy", "<two", "two>", "r"), ("ask", IN, ("out", -3)), ("ask", ("zero", 0), ("zero", 1 - 10 ** 13))))
        self.assertEqual(str(Program(("voice", "two"), *edits)), "tracks: voice, two\n" + "\n".join(LINES) + "\n")

    def test_ifs(self):
        deep = Program(("voice",), NESTED, ("if", ("long", "<voice", "p", 2), (), ()),
                       ("if", ("heard", "A", ("in", -1)), (), (("if", ("most", IN, OUT), (), (("hush", "p", 0),)),)))
        self.assertEqual(str(deep), "\n".join((
            "tracks: voice", "if most in out+3", "  put voice> A in out+3", "  if heard A out+3", "    hush p 4", "  end",
            "else", "  ask in out+3", "  hush p 4", "end", "if long <voice p 2", "end", "if heard A in-1", "else",
            "  if most in out+3", "  else", "    hush p 0", "  end", "end", "")))
        self.assertEqual(Program.read(str(deep)), deep)

    def test_there_and_back(self):
        for program in (Program(("a",)), PROGRAM, Program(("voice", "two"), *[edit for edit in GOOD if edit[-1] != (
                "x", 10 ** 30)])):
            again = Program.read(str(program))
            self.assertEqual((again.tracks, again.edits), (program.tracks, program.edits))

    def test_drawn_programs_there_and_back(self):
        rng = random.Random(41)
        marks = ("A", "B", "m")
        draw = Draw(rng, marks, ("A", "B"), ("one", "two"), (-10 ** 12, 10 ** 12))
        for turn in range(200):
            program = draw.program(rng.randint(1, 12), sheet_of(rng, marks, ("A", "B"), 0, 0, 0), (4, 5, 3), 0.9)
            again = Program.read(str(program))
            self.assertEqual((again.tracks, again.edits), (program.tracks, program.edits))
            self.assertEqual(str(again), str(program))


class Reading(Case):
    def bad(self, text, line):
        self.fails(BadText, Program.read, text, line=line)

    def test_static(self):
        self.assertIsInstance(vars(Program)["read"], staticmethod)

    def test_empty(self):
        self.bad("", 1)

    def test_tracks(self):
        for line in ("", "tracks:", "tracks: ", "tracks", "track: a", "Tracks: a", "tracks:a", "tracks:  a",
                     "tracks: a,b", "tracks: a,  b", "tracks: a , b", "tracks: a, ", "tracks: , a", "tracks: a, a",
                     "tracks: a1", "tracks: abcdefghi", "tracks: a b", " tracks: a", "tracks: a ", "marks: a",
                     "tracks: <a", "tracks: a\t", "tracks: a\r"):
            self.bad(f"{line}\n", 1)
            self.bad(f"{line}\nhush x\n", 1)

    def test_no_edit_at_all(self):
        self.assertEqual(Program.read("tracks: a, b\n"), Program(("a", "b")))

    def test_bad_lines(self):
        for line in BAD_LINES:
            self.bad(f"tracks: voice, two\n{line}\n", 2)
            self.bad(f"tracks: voice, two\nhush p 1\nif heard A in\n  hush p 1\nend\n{line}\n\n", 6)

    def test_bad_lines_inside(self):
        for line in BAD_LINES:
            self.bad(f"tracks: voice, two\nif heard A in\n  {line}\n", 3)
            self.bad(f"tracks: voice, two\nif heard A in\n  hush p 1\nelse\n  hush p 1\n  {line}\nend\n", 6)

    def test_blanks_ahead(self):
        for line in LINES:
            for blanks in (" ", "  ", "    ", "\t"):
                self.bad(f"tracks: voice, two\n{blanks}{line}\n", 2)
            for blanks in ("", " ", "   ", "    "):
                self.bad(f"tracks: voice, two\nif heard A in\n{blanks}{line}\nend\n", 3)
            self.bad(f"tracks: voice, two\nif heard A in\nelse\n{line}\nend\n", 4)

    def test_else_and_end(self):
        head = "tracks: v\n"
        self.bad(f"{head}else\n", 2)
        self.bad(f"{head}end\n", 2)
        self.bad(f"{head}hush p 1\nend\n", 3)
        self.bad(f"{head}if heard A 0\n  end\nend\n", 3)
        self.bad(f"{head}if heard A 0\n  else\nend\n", 3)
        self.bad(f"{head}if heard A 0\nend \n", 3)
        self.bad(f"{head}if heard A 0\nend\nend\n", 4)
        self.bad(f"{head}if heard A 0\nelse\nend\n", 4)
        self.bad(f"{head}if heard A 0\nelse\nelse\n", 4)
        self.bad(f"{head}if heard A 0\nelse\n  hush p 1\nelse\n", 5)
        self.bad(f"{head}if heard A 0\nelse\n  hush p 1\nend\nelse\n", 6)
        self.bad(f"{head}if heard A 0\n  if heard A 0\nend\n", 4)
        self.bad(f"{head}if heard A 0\n  if heard A 0\nelse\n", 4)
        self.bad(f"{head}if heard A 0\n  if heard A 0\n  else\n  end\nend\n", 5)
        self.bad(f"{head}if heard A 0\n  if heard A 0\n    end\n  end\nend\n", 4)

    def test_missing_lines(self):
        head = "tracks: v\n"
        self.bad(f"{head}if heard A 0\n", 3)
        self.bad(f"{head}if heard A 0\n  hush p 1\n", 4)
        self.bad(f"{head}if heard A 0\nelse\n", 4)
        self.bad(f"{head}if heard A 0\nelse\n  hush p 1\n", 5)
        self.bad(f"{head}if heard A 0\n  if heard A 0\n  end\n", 5)

    def test_missing_newline(self):
        self.bad("tracks: v", 1)
        self.bad("tracks: v\nhush p 1", 2)
        self.bad("tracks: v\nhush p 1\nhush p 1", 3)
        self.bad("tracks: v\nif heard A 0\nend", 3)
        self.bad("tracks: v\nif heard A 0", 2)
        self.bad("tracks: v\n ", 2)
        self.bad("tracks: v\nhush p 1\nhush p 99", 3)

    def test_empty_lines(self):
        self.bad("\n", 1)
        self.bad("\ntracks: v\n", 1)
        self.bad("tracks: v\n\n", 2)
        self.bad("tracks: v\n\nhush p 1\n", 2)
        self.bad("tracks: v\nif heard A 0\n\nend\n", 3)

    def test_the_first_bad_line(self):
        self.bad("tracks: 1\nhush p 99\nend", 1)
        self.bad("tracks: v\nhush p 1\nhush p 99\nelse\nend", 3)
        self.bad("tracks: v\nif heard A 0\n  hush p 99\nhush", 3)

    def test_only_newlines_end_lines(self):
        self.bad("tracks: v\rhush p 1\n", 1)
        self.bad("tracks: v\r\n", 1)
        self.bad("tracks: v\nhush p 1\x0bhush p 1\n", 2)

    def test_names_of_takes_and_marks_are_not_looked_up(self):
        self.assertEqual(
            Program.read("tracks: v\nput v> nope a b\n").edits, (("put", "v>", "nope", ("a", 0), ("b", 0)),))

    def test_each_line_bent(self):
        lines = str(PROGRAM).split("\n")[:-1]
        for at, line in enumerate(lines):
            for bent in (line + " ", " " + line, "  " + line, line.upper() + "x", line[:-1] + "?", "?" + line[1:], ""):
                self.bad("\n".join(lines[:at] + [bent] + lines[at + 1:]) + "\n", at + 1)


if __name__ == "__main__":
    unittest.main()
