"""[30] to [32]: long drawn stories against a plain table that asks anew behind each deed."""

import copy
import random
import unittest
from collections import Counter

from drawn import Draw
from slow import Player
from test_findings_reckoned import KINDS, drawn_fault
from unknowntakes.compared import compare
from unknowntakes.errors import (
    BadDeed, BadEdit, BadFault, BadMarks, CouldGoWrong, NameTaken, NoBranch, NothingToUndo, NoWatch, TakesError, UnknownName)
from unknowntakes.findings import ask
from unknowntakes.programs import Program
from unknowntakes.sheets import Sheet
from unknowntakes.tables import StrictTable, Table, retell, tried

FIELDS = ("index", "ring", "name", "step", "kind", "recording", "line")


class Plain:
    """Keeps a sheet, programs and watches in lists, all of them at each time, and asks anew behind each deed."""

    def __init__(self, strict, *tracks):
        self.strict = strict
        self.times = [{"sheet": Sheet((), ()), "programs": [("main", Program(tracks))], "branch": "main", "watches": []}]
        self.deeds = []

    def now(self):
        return self.times[-1]

    def program(self, name=None):
        return dict(self.now()["programs"])[self.now()["branch"] if name is None else name]

    def states(self):
        """{name of a watch: its state}, asked anew; a step that the program has not is no wrong."""
        found = {}
        for name, faults in self.now()["watches"]:
            there = [fault for fault in faults if fault[0] != "wrong" or len(fault) == 1 or fault[1] < len(self.program())]
            found[name] = ask(self.now()["sheet"], self.program(), *there).state if there else "sure"
        return found

    def changed(self, before, after):
        return [name for name in before if name in after and before[name] != after[name]]

    def do(self, deed):
        before = self.states()
        new = copy.copy(self.now())
        getattr(self, f"do_{deed[0]}")(new, *deed[1:])
        self.times.append(new)
        self.deeds.append(deed)
        return self.changed(before, self.states())

    def undo(self):
        if not self.deeds:
            raise NothingToUndo()
        before = self.states()
        self.times.pop()
        self.deeds.pop()
        return self.changed(before, self.states())

    def do_take(self, new, name):
        sheet = new["sheet"]
        new["sheet"] = Sheet(sheet.marks + (name,), sheet.takes + (name,), sheet.facts)

    def do_mark(self, new, name):
        sheet = new["sheet"]
        new["sheet"] = Sheet(sheet.marks + (name,), sheet.takes, sheet.facts)

    def do_know(self, new, x, y, c):
        new["sheet"] = Sheet(new["sheet"].marks, new["sheet"].takes, new["sheet"].facts + ((x, y, c),))

    def do_measure(self, new, mark, number):
        if mark not in new["sheet"].marks:
            raise UnknownName(mark)
        facts = ((mark, "zero", number), ("zero", mark, -number))
        new["sheet"] = Sheet(new["sheet"].marks, new["sheet"].takes, new["sheet"].facts + facts)

    def do_edit(self, new, edit):
        program = self.program() + edit
        finding = ask(new["sheet"], program, ("wrong",))
        if self.strict and not finding:
            raise CouldGoWrong(*program(new["sheet"], finding.least_bad)[1:], finding.least_bad)
        new["programs"] = [(name, program if name == new["branch"] else old) for name, old in new["programs"]]

    def do_start(self, new, name):
        if name in dict(new["programs"]):
            raise NameTaken(name)
        new["programs"] = new["programs"] + [(name, self.program())]
        new["branch"] = name

    def do_go(self, new, name):
        if name not in dict(new["programs"]):
            raise NoBranch(name)
        new["branch"] = name

    def do_watch(self, new, name, faults):
        if name in dict(new["watches"]):
            raise NameTaken(name)
        ask(new["sheet"], self.program(), *faults)
        new["watches"] = new["watches"] + [(name, faults)]


def tell(table, deed):
    """The deed as a call of the table."""
    word, *parts = deed
    return table.watch(parts[0], *parts[1]) if word == "watch" else getattr(table, word)(*parts)


def ended(call):
    """What a call returns, or its error and the fields of it, but for rings: any ring may do."""
    try:
        return call()
    except TakesError as error:
        fields = [getattr(error, name, None) for name in FIELDS if name != "ring"]
        return (type(error).__name__, *fields)


class Story:
    """Draws deeds for a plain table."""

    def __init__(self, rng, plain, steps):
        self.rng, self.plain, self.steps = rng, plain, steps

    def name(self, known):
        return self.rng.choice(("A", "m", "B", "n", "A", "m", "zero", "x y", "", *known))

    def deed(self):
        rng, sheet = self.rng, self.plain.now()["sheet"]
        if not sheet.takes and rng.random() < 0.9:
            return ("take", "A")
        words = ["know", "measure", "edit", "edit", "edit", "start", "go", "watch", "watch"]
        words += ["take", "mark"] * (len(sheet.marks) < 3)
        return getattr(self, rng.choice(words))(sheet)

    def take(self, sheet):
        return ("take", self.name(sheet.marks) if self.rng.random() < 0.5 else "B")

    def mark(self, sheet):
        return ("mark", self.name(sheet.marks) if self.rng.random() < 0.5 else "m")

    def know(self, sheet):
        rng, names = self.rng, ("zero", *sheet.marks, *["q"] * (self.rng.random() < 0.1))
        return ("know", rng.choice(names), rng.choice(names), rng.randint(-4, 8))

    def measure(self, sheet):
        return ("measure", self.rng.choice((sheet.marks * 4) + ("q",)), self.rng.randint(0, 6))

    def edit(self, sheet):
        rng = self.rng
        if rng.random() < 0.15 or not sheet.takes or len(self.plain.program()) >= self.steps:
            return ("edit", rng.choice((("hush", "v>", 61), ("hush", "v>", 1), (), ("put", "v>", "Q", ("s", 0), ("t", 0)),
                                        ("ask", ("zero", 0), ("u", 0)), ("cut", "<v", "w"), ("cut", "<v", "w>"))))
        draw = Draw(rng, sheet.marks, sheet.takes, ("v",), (-1, 2))
        draw.there = ["p"]
        word = "put" if not len(self.plain.program()) else rng.choice(draw.words)
        return ("edit", draw.edit(word, 2))

    def start(self, sheet):
        return ("start", self.rng.choice(("main", "other", "third one", "")))

    def go(self, sheet):
        return ("go", self.rng.choice(("main", "other", "third one", "nowhere")))

    def watch(self, sheet):
        rng = self.rng
        if not sheet.takes or rng.random() < 0.1:
            faults = rng.choice(((), (("wrong", 9),), (("declined",), ("blip", 0)), (("heard", "Q", ("zero", 0), ("m", 0)),)))
        else:
            draw = Draw(rng, sheet.marks, sheet.takes, ("v",), (-1, 2))
            faults = tuple(drawn_fault(rng, draw, self.plain.program(), rng.choice(("wrong", *KINDS)))
                           for _ in range(rng.randint(1, 2)))
        return ("watch", rng.choice(("one", "two", "three", "four")), faults)


class Stories(unittest.TestCase):
    def check(self, table, plain):
        now = plain.now()
        self.assertEqual((table.sheet.marks, table.sheet.takes, table.sheet.facts),
                         (now["sheet"].marks, now["sheet"].takes, now["sheet"].facts))
        self.assertTrue(table.sheet == now["sheet"] and table.program == plain.program())
        self.assertEqual((table.branch, table.branches), (now["branch"], tuple(name for name, _ in now["programs"])))
        for name, program in now["programs"]:
            self.assertEqual(table.branch_program(name), program)
        for name, state in plain.states().items():
            self.assertEqual(table.state_of(name), state)
        self.assertEqual(table.story(), plain.deeds)
        self.assertEqual(table.sound(), self.sound(now["sheet"], plain.program()))

    def sound(self, sheet, program):
        numbers = [sheet[mark, "zero"] for mark in sheet.marks]
        if any(sheet["zero", mark] != (None if top is None else -top) for mark, top in zip(sheet.marks, numbers)):
            return None
        return Player(sheet, program, tuple(numbers)).outcome()

    def stories(self, seed, turns, kinds=(Table, StrictTable)):
        rng = random.Random(seed)
        for turn in range(turns):
            kind = kinds[turn % len(kinds)]
            table, plain = kind("v"), Plain(kind is StrictTable, "v")
            yield rng, table, plain, Story(rng, plain, 4)

    def test_stories(self):
        seen = Counter()
        for rng, table, plain, story in self.stories(171, 60):
            for _ in range(35):
                if rng.random() < 0.15:
                    told, wanted = ended(table.undo), ended(plain.undo)
                else:
                    deed = story.deed()
                    told, wanted = ended(lambda: tell(table, deed)), ended(lambda: plain.do(deed))
                self.assertEqual(told, wanted, plain.deeds)
                self.check(table, plain)
                seen[wanted[0] if isinstance(wanted, tuple) else len(wanted)] += 1
            while plain.deeds:
                self.assertEqual(table.undo(), plain.undo())
                self.check(table, plain)
            self.assertEqual(ended(table.undo), ended(plain.undo))
        errors = "BadMarks BadFact Contradiction UnknownName BadEdit NameTaken NoBranch BadFault CouldGoWrong".split()
        self.assertGreater(min(seen[name] for name in [0, 1, *errors]), 5, seen)

    def grown(self, rng, table, plain, story, many):
        for _ in range(many):
            deed = story.deed()
            ended(lambda: tell(table, deed))
            ended(lambda: plain.do(deed))

    def test_twins(self):
        for rng, table, plain, story in self.stories(172, 30):
            self.grown(rng, table, plain, story, 15)
            twin, other = table.twin(), copy.deepcopy(plain)
            self.assertIs(type(twin), type(table))
            self.check(twin, plain)
            self.grown(rng, twin, other, Story(rng, other, 4), 8)
            self.check(table, plain)
            self.check(twin, other)
            while plain.deeds:
                self.assertEqual(table.undo(), plain.undo())
            self.check(twin, other)
            self.assertEqual(twin.undo() if other.deeds else [], other.undo() if other.deeds else [])
            self.check(twin, other)

    def test_retell_and_tried(self):
        seen = Counter()
        for rng, table, plain, story in self.stories(173, 40):
            self.grown(rng, table, plain, story, 12)
            fresh = type(table)("v")
            retell(fresh, table.story())
            self.check(fresh, plain)
            deeds = [story.deed() for _ in range(rng.randint(0, 3))]
            if rng.random() < 0.3:
                deeds.insert(rng.randint(0, len(deeds)), rng.choice((("undo",), (), ("know", "m"), (1, 2), (None,), ("take",))))
            other = copy.deepcopy(plain)
            wanted = ended(lambda: [self.done(other, at, deed) for at, deed in enumerate(deeds)])
            self.assertEqual(ended(lambda: tried(table, deeds)), wanted)
            self.check(table, plain)
            self.assertEqual(ended(lambda: retell(table, deeds)), None if isinstance(wanted, list) else wanted)
            self.check(table, other)
            seen[wanted[0] if isinstance(wanted, tuple) else "told"] += 1
        self.assertGreater(min(seen["told"], seen["BadDeed"], len(seen)), 3, seen)

    def done(self, plain, at, deed):
        parts = {"take": 1, "mark": 1, "know": 3, "measure": 2, "edit": 1, "start": 1, "go": 1, "watch": 2}
        if not deed or parts.get(deed[0]) != len(deed) - 1:
            raise BadDeed(at)
        return plain.do(deed)

    def test_differ(self):
        seen = Counter()
        for rng, table, plain, story in self.stories(174, 40, (Table,)):
            self.grown(rng, table, plain, story, 30)
            one, two = rng.choice(table.branches), rng.choice(table.branches)
            for further in (False, True):
                found = table.differ(one, two, further=further)
                wanted = compare(table.sheet, plain.program(one), plain.program(two), further=further)
                self.assertTrue(found.bad == wanted.bad and found.good == wanted.good)
                seen[found.state] += 1
            self.assertEqual(ended(lambda: table.differ("x", "y"))[:4], ("NoBranch", None, "x", None))
            self.assertEqual(ended(lambda: table.differ(one, "y"))[:4], ("NoBranch", None, "y", None))
            self.assertEqual(ended(lambda: table.state_of("y"))[0], NoWatch.__name__)
        self.assertGreater(seen["sure"], 10)

    def test_strict_tables_never_go_wrong(self):
        many = 0
        for rng, table, plain, story in self.stories(175, 40, (StrictTable,)):
            for _ in range(25):
                deed = story.deed()
                ended(lambda: tell(table, deed))
                ended(lambda: plain.do(deed))
                for name in table.branches:
                    if len(table.branch_program(name)):
                        self.assertEqual(ask(table.sheet, table.branch_program(name), ("wrong",)).state, "sure")
                        many += 1
        self.assertGreater(many, 100)


if __name__ == "__main__":
    unittest.main()
