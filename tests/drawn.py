"""Programs, sheets and recordings that are drawn at random."""

from slow import Player
from unknowntakes.errors import Contradiction
from unknowntakes.programs import Program
from unknowntakes.sheets import Sheet

PINS = ("p", "q", "r")

WORDS = ("put", "put", "hush", "drop", "only", "pin", "pin", "pin", "nudge", "nudge", "cut", "move", "copy", "ask",
         "if", "if")


class Draw:
    """Draws programs about the marks of a sheet, with amounts from the first one to the second one."""

    def __init__(self, rng, marks, takes, tracks=("voice",), amounts=(-2, 3), words=WORDS):
        self.rng, self.marks, self.takes, self.tracks = rng, marks, takes, tracks
        self.amounts, self.words = amounts, words
        self.there = []

    def place(self):
        amount = self.rng.choice((0, 0, self.rng.randint(*self.amounts)))
        return (self.rng.choice(("zero",) + self.marks + self.marks), amount)

    def span(self, take):
        """Two places, often those of the whole take."""
        if self.rng.random() < 0.4:
            return ("zero", 0), (take, 0)
        return self.place(), self.place()

    def fixed(self):
        track = self.rng.choice(self.tracks)
        return self.rng.choice((f"<{track}", f"{track}>"))

    def pin(self):
        """A pin that is not fixed, most often one that stands."""
        return self.rng.choice(self.there if self.there and self.rng.random() < 0.8 else PINS)

    def point(self):
        return self.pin() if self.rng.random() < 0.6 else self.fixed()

    def stretch(self):
        track = self.rng.choice(self.tracks)
        first = self.rng.choice((f"<{track}", self.point(), self.point()))
        return first, self.rng.choice((f"{track}>", self.point(), self.point()))

    def test(self):
        word = self.rng.choice(("most", "heard", "long"))
        if word == "most":
            return (word, self.place(), self.place())
        if word == "heard":
            return (word, self.rng.choice(self.takes), self.place())
        return (word, *self.stretch(), self.rng.randint(0, 2))

    def edit(self, word, depth=0):
        rng = self.rng
        take = rng.choice(self.takes)
        if word == "put":
            return (word, self.fixed() if rng.random() < 0.7 else self.point(), take, *self.span(take))
        if word == "hush":
            return (word, self.point(), rng.randint(0, 4))
        if word in ("drop", "only"):
            return (word, take, *self.span(take))
        if word == "pin":
            return (word, rng.choice(PINS), rng.choice(("ahead", "behind")), take, self.place())
        if word == "nudge":
            return (word, self.pin(), rng.randint(-3, 3))
        if word == "cut":
            return (word, *self.stretch())
        if word in ("move", "copy"):
            return (word, *self.stretch(), self.point())
        if word == "ask":
            return (word, self.place(), self.place())
        return (word, self.test(), self.edits(rng.randint(0, 2), depth + 1), self.edits(rng.randint(0, 2), depth + 1))

    def edits(self, many, depth):
        words = [word for word in self.words if depth < 3 or word != "if"]
        return tuple(self.edit(self.rng.choice(words), depth) for _ in range(many))

    def program(self, many, sheet, hint, wrong=0.03):
        """A program of at most so many steps, which most often does not go wrong at the hint, a recording."""
        program = Program(self.tracks)
        self.there = []
        for turn in range(5 * many):
            longer = program + self.edit("put" if turn == 0 else self.rng.choice(self.words))
            if len(longer) <= many:
                player = Player(sheet, longer, hint)
                if not player.end or self.rng.random() < wrong:
                    program = longer
                    self.there = [pin for pin in PINS if player.ahead(pin) is not None]
        return program


def sheet_of(rng, marks, takes, many, low, high):
    """A sheet of about so many facts: those that contradict are left out."""
    sheet = Sheet(marks, takes)
    names = ("zero",) + marks
    for _ in range(many):
        x, y = rng.sample(names, 2)
        try:
            sheet = sheet.with_fact(x, y, rng.randint(low, high))
        except Contradiction:
            pass
    return sheet


def recording_of(rng, sheet, top):
    """A recording of the sheet; marks without an upper end go up to top beyond their least number."""
    here = sheet
    for mark in rng.sample(sheet.marks, len(sheet.marks)):
        low, high = -here["zero", mark], here[mark, "zero"]
        high = low + top if high is None else high
        number = rng.choice((low, high, rng.randint(low, high), rng.randint(low, high), rng.randint(low, min(high, low + 5))))
        here = here.measured(mark, number)
    return here.least
