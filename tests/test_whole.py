"""The parts of the program together: what one returns is passed to the others, and all tell the same."""

import random
import unittest
from collections import Counter

from compared import large_draws
from drawn import Draw, recording_of
from oracles import order
from test_findings_reckoned import KINDS, drawn_fault, small_sheet
from unknowntakes.compared import clash, compare, hangs, sounding, telling_edit, thin, told
from unknowntakes.families import Family
from unknowntakes.findings import Finding, ask, ends, shapes, times
from unknowntakes.mends import fewest, gentle, loosest, needed, safe_amounts, settles, with_asks
from unknowntakes.playing import played, standing
from unknowntakes.programs import Program
from unknowntakes.sheets import Sheet
from unknowntakes.sums import gap, span
from unknowntakes.tables import StrictTable, Table, retell
from unknowntakes.trees import follow, is_outcome_tree, is_verdict_tree, outcome_tree, verdict_tree


def small_draws(seed, turns):
    """(rng, draw, sheet, program, recordings) with small numbers."""
    rng = random.Random(seed)
    for turn in range(turns):
        marks, takes, top = [(("m", "A", "n"), ("A",), 5), (("A", "m"), ("A",), 9), (("B", "m", "A"), ("A", "B"), 5)][turn % 3]
        sheet = small_sheet(rng, marks, takes, top)
        draw = Draw(rng, marks, takes, ("one", "two")[:1 + turn % 2])
        hint = recording_of(rng, sheet, top)
        rows = sorted({recording_of(rng, sheet, top) for _ in range(12)})
        yield rng, draw, sheet, draw.program(rng.randint(1, 4), sheet, hint), rows


def both(seed, turns):
    """Small and large draws."""
    yield from small_draws(seed, turns)
    for rng, draw, sheet, program, _, rows in large_draws(seed + 1, turns):
        yield rng, draw, sheet, program, rows[:12]


def leaf_sheets(sheet, tree):
    """(leaf, the sheet with the facts of its way)."""
    sheets = {0: sheet}
    for at, row in enumerate(tree):
        if row[0] == "ask":
            _, x, y, c, yes, no = row
            sheets[yes] = sheets[at].with_fact(x, y, c)
            sheets[no] = sheets[at].with_fact(y, x, -c - 1)
    return [(row, sheets[at]) for at, row in enumerate(tree) if row[0] != "ask"]


def shape_of(leaf):
    if leaf[0] != "sound":
        return leaf
    return ("sound", tuple(tuple(run[0] or str(run[2]) for run in runs) for runs in leaf[1]))


class Trees(unittest.TestCase):
    def test_leaves_are_apart_and_together_the_sheet(self):
        for rng, draw, sheet, program, rows in both(181, 30):
            sheets = [part for _, part in leaf_sheets(sheet, outcome_tree(sheet, program))]
            self.assertTrue(Family(*sheets) == Family(sheet))
            for row in rows:
                self.assertEqual(sum(row in part for part in sheets), 1)

    def test_outcome_trees_and_shapes(self):
        for rng, draw, sheet, program, rows in both(182, 40):
            leaves = leaf_sheets(sheet, outcome_tree(sheet, program))
            least = {}
            for leaf, part in leaves:
                shape = shape_of(leaf)
                if shape not in least or order(part.least) < order(least[shape]):
                    least[shape] = part.least
            self.assertEqual(shapes(sheet, program), sorted(least.items()))

    def test_outcome_trees_and_ends(self):
        """The ends of a shape are the ends of the places of its leaves."""
        many = 0
        for rng, draw, sheet, program, rows in both(183, 70):
            leaves = leaf_sheets(sheet, outcome_tree(sheet, program))
            for shape, _ in shapes(sheet, program):
                if shape[0] == "sound":
                    told_ends = ends(sheet, program, shape)
                    for track, runs in enumerate(shape[1]):
                        for at, take in enumerate(runs):
                            if not take.isdigit():
                                here = [(leaf[1][track][at], part) for leaf, part in leaves if shape_of(leaf) == shape]
                                wanted = [*self.ends(here, 1), *self.ends(here, 2)]
                                self.assertEqual(list(told_ends[track][at]), wanted)
                                many += 1
        self.assertGreater(many, 50)

    def ends(self, here, which):
        """(the least, the greatest) of a place of runs at the recordings of their sheets, by span."""
        tops = [span(part, (run[which],), (("zero", 0),)) for run, part in here]
        lows = [span(part, (("zero", 0),), (run[which],)) for run, part in here]
        return (min(-low[0] for low in lows), None if None in tops else max(top[0] for top in tops))

    def test_ask_and_outcome_trees(self):
        """At the leaves of an outcome tree wrongs and declines are sure or never."""
        for rng, draw, sheet, program, rows in both(184, 30):
            for leaf, part in leaf_sheets(sheet, outcome_tree(sheet, program)):
                self.assertEqual(ask(part, program, ("wrong",)).state, "never" if leaf[0] == "wrong" else "sure")
                self.assertEqual(ask(part, program, ("declined",)).state, "never" if leaf[0] == "declined" else "sure")
                if leaf[0] == "wrong":
                    self.assertEqual(ask(part, program, ("wrong", leaf[1])).state, "never")
                self.assertTrue(is_outcome_tree(part, program, [leaf]))

    def test_ask_and_verdict_trees(self):
        for rng, draw, sheet, program, rows in both(185, 40):
            faults = [drawn_fault(rng, draw, program, rng.choice(KINDS)) for _ in range(rng.randint(1, 2))]
            finding = ask(sheet, program, *faults)
            tree = verdict_tree(sheet, program, *faults)
            leaves = leaf_sheets(sheet, tree)
            for family, leaf in ((finding.bad, ("bad",)), (finding.good, ("good",))):
                self.assertTrue(family == Family(*[part for row, part in leaves if row == leaf]))
            # A tree for a sheet is one for a closer sheet, too, if its leaves still have recordings.
            self.assertTrue(is_verdict_tree(finding.bad.parts[0] if finding.bad else sheet, program, [("bad",)], *faults)
                            or not finding.bad)
            for row in rows:
                self.assertEqual(follow(sheet, tree, row), ("bad",) if row in finding.bad else ("good",))

    def test_trees_and_playing(self):
        for rng, draw, sheet, program, rows in both(186, 30):
            tree = outcome_tree(sheet, program)
            for row in rows:
                leaf = follow(sheet, tree, row)
                outcome = program(sheet, row)
                steps = list(played(sheet, program, row))
                if leaf[0] == "sound":
                    self.assertTrue(compare(sheet.measured(sheet.marks[0], row[0]), program, program, further=True))
                    self.assertIn(row, sounding(sheet, program, outcome[1]))
                    self.assertEqual(shape_of(leaf), shape_of(outcome))
                else:
                    self.assertEqual(leaf, outcome)
                    self.assertEqual(steps[-1], (leaf[1], leaf[-1] if leaf[0] == "wrong" else "declined"))


class Comparing(unittest.TestCase):
    def test_compare_and_telling_edit(self):
        seen = Counter()
        for rng, draw, sheet, first, second, rows in large_draws(191, 60):
            plain, further = compare(sheet, first, second), compare(sheet, first, second, further=True)
            self.assertTrue(further.good.within(plain.good) and plain.bad.within(further.bad))
            for row in [*rows[:10], *[row for row in (further.least_bad, further.least_good) if row]]:
                edit = telling_edit(sheet, first, second, row)
                self.assertIs(edit is None, row in further.good)
                self.assertIs(edit == (), row in plain.bad)
                if edit:
                    self.assertIn(row, compare(sheet, first + edit, second + edit).bad)
                seen[edit if edit is None else len(edit) > 0] += 1
        self.assertGreater(min(seen[None], seen[False]), 20, seen)

    def test_a_program_and_itself(self):
        for rng, draw, sheet, program, rows in both(192, 30):
            self.assertEqual(compare(sheet, program, Program.read(str(program)), further=True).state, "sure")
            self.assertTrue(compare(sheet, program, thin(sheet, program), further=True))
            edits = program.edits
            self.assertTrue(clash(sheet, Program(program.tracks, *edits[:-1]), edits[-1:], edits[-1:]))
            for row in rows:
                self.assertIsNone(telling_edit(sheet, program, program, row))

    def test_other_ways_to_say_the_same(self):
        """An if with an ask in it is an ask; its branches swapped with another test are the same."""
        for rng, draw, sheet, program, rows in both(193, 30):
            x, y = draw.place(), draw.place()
            one = program + ("ask", x, y)
            two = program + ("if", ("most", x, y), (), (("ask", ("zero", 1), ("zero", 0)),))
            self.assertTrue(compare(sheet, one, two, further=True))
            inside, others = draw.edits(1, 3), draw.edits(1, 3)
            one = program + ("if", ("most", x, y), inside, others)
            two = program + ("if", ("most", (y[0], y[1] + 1), x), others, inside)
            self.assertTrue(compare(sheet, one, two, further=True))

    def test_hangs_told_and_others(self):
        for rng, draw, sheet, program, rows in both(194, 40):
            for mark in sheet.marks:
                pair = hangs(sheet, program, mark)
                if pair is not None:
                    outcomes = [program(sheet, row) for row in pair]
                    self.assertNotEqual(*[one if one[0] == "sound" else one[0] for one in outcomes])
                    further = hangs(sheet, program, mark, further=True)
                    self.assertLessEqual(sum(map(sum, further)), sum(map(sum, pair)))
                pair = told(sheet, program, mark)
                if pair is not None:
                    family = sounding(sheet, program, program(sheet, pair[0])[1])
                    self.assertTrue(pair[0] in family and pair[1] in family)
                    self.assertIsNone(told(sheet.measured(mark, pair[0][sheet.marks.index(mark)]), program, mark))

    def test_hangs_and_settles(self):
        """If the outcome does not hang on a mark, whether it is wrong is settled without it."""
        many = 0
        for rng, draw, sheet, program, rows in small_draws(195, 100):
            finding = ask(sheet, program, ("wrong",))
            for mark in sheet.marks:
                if hangs(sheet, program, mark) is None:
                    others = [other for other in sheet.marks if other != mark]
                    self.assertIsNone(settles(finding, *others))
                    many += 1
        self.assertGreater(many, 30)


class Findings(unittest.TestCase):
    def test_findings_of_all_kinds_may_be_mended(self):
        seen = Counter()
        for rng, draw, sheet, first, second, rows in large_draws(201, 40):
            fault = drawn_fault(rng, draw, first, rng.choice(KINDS), 9)
            one, two = ask(sheet, first, fault), compare(sheet, first, second)
            for finding in (one, two, Finding(one.good, one.bad), Finding(one.bad & two.bad, one.good & two.good),
                            Finding(one.bad | two.bad, one.good - two.bad)):
                if not finding.bad and not finding.good:
                    continue
                x, y = rng.sample(("zero", *sheet.marks), 2)
                loose, kept = loosest(finding, x, y), gentle(finding)
                seen[loose[0], kept[0]] += 1
                if loose[0] == "fact":
                    self.assertTrue(loose[2] in finding.bad and (loose[3] is None or loose[3] in finding.good))
                if kept[0] == "facts":
                    self.assertFalse(finding.bad & Family(Sheet(sheet.marks, sheet.takes, kept[1])))
                    self.assertEqual(len(with_asks(first, kept[1])), len(first) + len(kept[1]))
                self.assertIsNone(settles(finding, *fewest(finding)))
                if finding.least_bad is not None:
                    self.assertEqual(finding.bad.near(finding.least_bad), (0, finding.least_bad))
        self.assertGreater(len(seen), 4)

    def test_bad_and_good_of_all_findings(self):
        for rng, draw, sheet, first, second, rows in large_draws(202, 30):
            for finding in (compare(sheet, first, second), compare(sheet, first, second, further=True),
                            clash(sheet, Program(first.tracks), first.edits[:2], second.edits[:1])):
                self.assertTrue(finding.bad | finding.good == Family(sheet))
                self.assertFalse(finding.bad & finding.good)
                self.assertTrue(finding.bad.within(Family(sheet) - finding.good))

    def test_needed_facts_make_it_sure(self):
        many = 0
        for rng, draw, sheet, program, rows in both(203, 150):
            fault = drawn_fault(rng, draw, program, rng.choice(KINDS))
            if ask(sheet, program, fault):
                left = needed(sheet, program, fault)
                self.assertTrue(ask(Sheet(sheet.marks, sheet.takes, left), program, fault))
                ahead = iter(sheet.facts)
                self.assertTrue(all(fact in ahead for fact in left))
                many += len(left) > 0
        self.assertGreater(many, 3)

    def test_amounts_and_least_bad_recordings(self):
        """An amount that is safe is so at each recording, one that is not safe has a bad one."""
        many = 0
        for rng, draw, sheet, program, rows in both(204, 40):
            for step in range(len(program)):
                if program[step][0] in ("put", "drop", "only", "ask"):
                    place = [part for part in program[step] if isinstance(part, tuple)][1]
                    ranges = safe_amounts(sheet, program, step, 2, ("wrong",), ("declined",))
                    safe = any((low is None or low <= place[1]) and (high is None or place[1] <= high) for low, high in ranges)
                    finding = ask(sheet, program, ("wrong",), ("declined",))
                    self.assertIs(safe, bool(finding))
                    many += 1
        self.assertGreater(many, 40)

    def test_gaps_and_times(self):
        """A track is as long as its gap tells, at all leaves of the tree alike."""
        for rng, draw, sheet, program, rows in both(205, 30):
            track = program.tracks[0]
            total = gap(sheet, program, f"<{track}", f"{track}>")
            for row in rows:
                outcome = standing(sheet, program, row)
                if outcome[0] == "sound":
                    many = sum(run[2] - run[1] for run in outcome[1][0] if len(run) == 3)
                    self.assertLessEqual(total.lowest, many)
                    self.assertTrue(total.highest is None or many <= total.highest)
            heard = times(sheet, program, "A", ("zero", 0), ("A", 0))
            finding = ask(sheet, program, ("twice", "A", ("zero", 0), ("A", 0)))
            self.assertIs(heard is not None and heard[1][0] > 1, bool(finding.bad))


class Tables(unittest.TestCase):
    def table(self, kind, sheet, program):
        """A table with this sheet and program."""
        table = kind(*program.tracks)
        story = [("take" if mark in sheet.takes else "mark", mark) for mark in sheet.marks]
        story += [("know", *fact) for fact in sheet.facts]
        retell(table, [*story, *[("edit", edit) for edit in program.edits]])
        return table

    def test_tables_and_the_functions_they_stand_for(self):
        for rng, draw, sheet, first, second, rows in large_draws(211, 30):
            second = second if second.edits else Program(second.tracks, draw.edit("hush"))
            table = self.table(Table, sheet, first)
            self.assertTrue(table.sheet == sheet and table.program == first)
            fault = drawn_fault(rng, draw, first, rng.choice(KINDS))
            table.watch("fault", fault)
            self.assertEqual(table.state_of("fault"), ask(table.sheet, table.program, fault).state)
            tracks = Program(first.tracks)
            table.start("other")
            table.edit(second.edits[0])
            found = table.differ("main", "other", further=True)
            wanted = compare(sheet, first, first + second.edits[0], further=True)
            self.assertTrue(found.bad == wanted.bad)
            self.assertEqual(thin(table.sheet, tracks), tracks)
            row = rows[0]
            for mark, number in zip(sheet.marks, row):
                table.measure(mark, number)
            self.assertEqual(table.sound(), table.program(sheet, row))
            self.assertEqual(table.sheet.least, row)

    def test_strict_tables_and_ask(self):
        seen = Counter()
        for rng, draw, sheet, program, rows in both(212, 40):
            try:
                table = self.table(StrictTable, sheet, program)
            except ValueError as error:
                seen["could"] += 1
                part = Program.read("\n".join(str(program).split("\n")[:1]) + "\n")
                for edit in program.edits:
                    part = part + edit
                    finding = ask(sheet, part, ("wrong",))
                    if not finding:
                        break
                self.assertEqual((error.recording, ("wrong", error.step, error.kind)),
                                 (finding.least_bad, part(sheet, finding.least_bad)))
            else:
                seen["never"] += 1
                self.assertTrue(ask(table.sheet, table.program, ("wrong",)))
        self.assertGreater(min(seen.values()), 10, seen)

    def test_watches_keep_the_states_of_verdict_trees(self):
        for rng, draw, sheet, program, rows in both(213, 20):
            table = self.table(Table, sheet, program)
            faults = [drawn_fault(rng, draw, program, rng.choice(KINDS))]
            table.watch("w", *faults)
            words = {leaf[0] for leaf, _ in leaf_sheets(sheet, verdict_tree(sheet, program, *faults))}
            self.assertEqual(table.state_of("w"), {("good",): "sure", ("bad",): "never"}.get(tuple(words), "open"))


if __name__ == "__main__":
    unittest.main()
