"""[8], [9], [12] and [13]: drawn programs against a player that keeps the tracks moment by moment."""

import random
import unittest
from collections import Counter

from drawn import WORDS, Draw, sheet_of
from slow import Player
from unknowntakes.playing import cue_sheet, played, standing
from unknowntakes.programs import Program
from unknowntakes.sheets import Sheet

MARKS, TAKES = ("A", "m", "B"), ("A", "B")
SHEET = Sheet(MARKS, TAKES)
KINDS = {"sound", "declined", "unset", "early", "late", "backwards", "lost", "twofold", "short", "apart", "crossed",
         "inside"}


def cue_text(program, outcome):
    """A cue sheet reckoned from the words of [13]."""
    if outcome[0] != "sound":
        return f"{outcome[0]}: {' '.join(map(str, outcome[1:]))}\n"
    text = ""
    for track, row in zip(program.tracks, outcome[1]):
        text += track + ":\n"
        for number, run in enumerate(row):
            ahead = sum(one[2] - one[1] for one in row[:number])
            columns = (str(number + 1).rjust(3), (run[0] or "hush").ljust(8), str(ahead).rjust(14),
                       str(run[1]).rjust(14), str(run[2]).rjust(14))
            text += " ".join(columns) + "\n"
    return text


class Drawn(unittest.TestCase):
    def check(self, program, numbers):
        player = Player(SHEET, program, numbers)
        outcome = program(SHEET, numbers)
        self.assertEqual(outcome, player.outcome(), (program.edits, numbers))
        self.assertEqual(standing(SHEET, program, numbers), player.standing(), (program.edits, numbers))
        self.assertEqual(list(played(SHEET, program, numbers)), player.played(), (program.edits, numbers))
        self.assertEqual(cue_sheet(program, outcome), cue_text(program, outcome))
        return outcome[2] if outcome[0] == "wrong" else outcome[0]

    def run_many(self, seed, turns, tracks, most, wrong, words=WORDS):
        rng = random.Random(seed)
        draw = Draw(rng, MARKS, TAKES, tracks, words=words)
        seen, used = Counter(), Counter()
        for _ in range(turns):
            hint = (rng.randint(3, 10), rng.randint(0, 6), rng.randint(1, 8))
            program = draw.program(rng.randint(1, most), SHEET, hint, wrong)
            used.update(edit[0] if edit[0] != "if" else edit[1][0] for edit in program.steps)
            for numbers in (hint, *[tuple(rng.randint(0, 9) for _ in MARKS) for _ in range(3)]):
                seen[self.check(program, numbers)] += 1
        self.assertLessEqual(set(words) - {"if"}, set(used))
        return seen

    def test_one_track(self):
        seen = self.run_many(51, 400, ("voice",), 12, 0.03)
        self.assertGreater(seen["sound"], 300)

    def test_two_tracks(self):
        seen = self.run_many(52, 400, ("one", "two"), 12, 0.03)
        self.assertGreater(seen["sound"], 300)

    def test_three_tracks(self):
        self.run_many(53, 150, ("one", "two", "three"), 12, 0.1)

    def test_every_way_to_end(self):
        seen = self.run_many(54, 1500, ("one", "two"), 8, 0.5)
        seen += self.run_many(55, 500, ("voice",), 9, 0.2, ("put", "pin", "pin", "nudge", "move", "copy", "cut"))
        self.assertEqual({kind for kind in seen if seen[kind] > 2}, KINDS)

    def test_pins_side_by_side(self):
        words = ("put", "pin", "pin", "nudge", "nudge", "cut", "move", "drop", "hush")
        seen = self.run_many(56, 500, ("voice",), 12, 0.02, words)
        self.assertGreater(seen["sound"], 300)

    def test_ifs_in_ifs(self):
        seen = self.run_many(57, 300, ("one", "two"), 12, 0.05, ("put", "hush", "pin", "nudge", "ask", "if", "if", "if"))
        self.assertGreater(seen["sound"], 300)


class Scaled(unittest.TestCase):
    """Edits that count no single moments give the same tracks when every number is as much greater."""

    WORDS = ("put", "put", "drop", "only", "cut", "move", "copy", "ask", "if", "ahead", "ahead")

    def scaled(self, part, factor):
        if isinstance(part, tuple) and len(part) == 2 and isinstance(part[1], int):
            return (part[0], part[1] * factor)
        return tuple(self.scaled(one, factor) for one in part) if isinstance(part, tuple) else part

    def scaled_outcome(self, outcome, factor):
        if outcome[0] != "sound":
            return outcome
        rows = [tuple(one if one[0] == "pin" else (one[0], one[1] * factor, one[2] * factor) for one in row)
                for row in outcome[1]]
        return ("sound", tuple(rows))

    def draws_alike(self, edits):
        """True if the edits count no single moments."""
        return all(edit[:1] != ("if",) or edit[1][0] != "long" and self.draws_alike(edit[2] + edit[3]) for edit in edits)

    def test_scaled(self):
        rng = random.Random(58)
        draw = Draw(rng, MARKS, TAKES, ("one", "two"), words=tuple(word for word in self.WORDS if word != "ahead"))
        seen = Counter()
        for _ in range(300):
            hint = (rng.randint(3, 10), rng.randint(0, 6), rng.randint(1, 8))
            program = draw.program(rng.randint(1, 9), SHEET, hint, 0.05)
            for at in range(rng.randint(0, 3)):
                pin = ("pin", "pqr"[at], "ahead", rng.choice(TAKES), draw.place())
                longer = Program(program.tracks, *program.edits[:2 + at], pin, *program.edits[2 + at:])
                program = program if Player(SHEET, longer, hint).end else longer
            if self.draws_alike(program.edits):
                factor = rng.choice((10 ** 6, 10 ** 12, 7 ** 40))
                large = Program(program.tracks, *self.scaled(program.edits, factor))
                for numbers in (hint, tuple(rng.randint(0, 9) for _ in MARKS)):
                    many = tuple(number * factor for number in numbers)
                    outcome = standing(SHEET, program, numbers)
                    self.assertEqual(standing(SHEET, large, many), self.scaled_outcome(outcome, factor))
                    seen[outcome[0]] += 1
        self.assertGreater(seen["sound"], 150)


class Large(unittest.TestCase):
    def test_a_large_program_is_played_at_once(self):
        lines = ["put v> A 0 A"] + ["copy <v v> v>"] * 5 + ["hush v> 60", "drop A m B", "only A 5 A-5"]
        program = Program.read("tracks: v\n" + "".join(f"{line}\n" for line in lines))
        big = 10 ** 12
        outcome = program(SHEET, (big, 500, 700))
        self.assertEqual(outcome, ("sound", ((("A", 5, 500), ("A", 700, big - 5)) * 32 + (("", 0, 60),),)))

    def test_shifted_recordings(self):
        rng = random.Random(59)
        sheet = sheet_of(rng, MARKS, TAKES, 3, -10 ** 12, 10 ** 12)
        shift = max(sheet.least) + 10 ** 12
        # Puts from a mark on to a mark, with all marks shifted, are shifted, too.
        program = Program.read("tracks: v\nput v> A m-2 m+5\nput v> B m m+9\npin p behind B m+3\ncut p v>\n")
        for low in range(4):
            numbers = (shift + 40, shift + low, shift + 60)
            start = shift + low
            self.assertEqual(program(SHEET, numbers), ("sound", ((("A", start - 2, start + 5), ("B", start, start + 4)),)))


if __name__ == "__main__":
    unittest.main()
