"""What the tests share: reckonings, slow or roundabout, to hold the program's answers against."""

import unittest
from itertools import product

from unknowntakes.errors import TakesError


class Case(unittest.TestCase):
    def fails(self, kind, call, /, *args, **fields):
        """The call raises exactly this kind with these fields."""
        with self.assertRaises(TakesError, msg=repr(args)) as caught:
            call(*args)
        self.assertIs(type(caught.exception), kind, repr(args))
        for name, worth in fields.items():
            found = getattr(caught.exception, name)
            self.assertEqual(found, worth, repr(args))
            self.assertIs(type(found), type(worth))


def keeps(marks, facts, numbers):
    """True if the numbers keep the facts and none is below 0."""
    worth = dict(zip(("zero",) + marks, (0,) + numbers))
    return min((0,) + numbers) >= 0 and all(worth[x] - worth[y] <= c for x, y, c in facts)


def recordings(marks, facts, top):
    """All recordings whose numbers are at most top, gone through one by one."""
    return [row for row in product(range(top + 1), repeat=len(marks)) if keeps(marks, facts, row)]


def family_recordings(sheets, marks, top):
    """Those of any of the sheets."""
    return [row for row in product(range(top + 1), repeat=len(marks))
            if any(keeps(marks, sheet.facts, row) for sheet in sheets)]


def order(row):
    """What less means: the sum, then the tuple."""
    return (sum(row), row)


def greatest(marks, facts, x, y):
    """The greatest x - y by the method of Bellman and Ford; None if there is none.

    Returns "empty" if a ring of facts adds up to less than 0.
    """
    names = ("zero",) + marks
    edges = list(facts) + [("zero", mark, 0) for mark in marks]
    best = {name: None for name in names}
    best[x] = 0
    for turn in range(len(names) + 1):
        changed = False
        for one, two, c in edges:
            if best[one] is not None and (best[two] is None or best[two] > best[one] + c):
                best[two] = best[one] + c
                changed = True
        if not changed:
            return best[y]
    return "empty"


def least(marks, facts):
    """The least recording, None if there is none."""
    row = tuple(greatest(marks, facts, "zero", mark) for mark in marks)
    return None if "empty" in row else tuple(-number for number in row)


def uncovered(marks, facts, others):
    """True if some recording with these facts is in none of the others (lists of facts)."""
    if least(marks, facts) is None:
        return False
    if not others:
        return True
    solid = [*others[0], *[("zero", mark, 0) for mark in marks]]
    return any(uncovered(marks, [*facts, (y, x, -c - 1)], others[1:]) for x, y, c in solid)


def near(marks, parts, numbers, fixed):
    """(distance, recording) by halving the range in which the distance lies."""
    def at(distance):
        found = []
        for facts in parts:
            box = []
            for mark, number in zip(marks, numbers):
                give = 0 if mark in fixed else distance
                box += [(mark, "zero", number + give), ("zero", mark, give - number)]
            row = least(marks, list(facts) + box)
            if row is not None:
                found.append(row)
        return min(found, key=order) if found else None

    low, high = 0, 10 ** 14
    if at(high) is None:
        return None
    while low < high:
        middle = (low + high) // 2
        if at(middle) is None:
            low = middle + 1
        else:
            high = middle
    return (low, at(low))


def random_facts(rng, marks, many, low, high):
    """So many facts about the marks with numbers from low to high."""
    names = ("zero",) + marks
    facts = []
    for _ in range(many):
        x, y = rng.sample(names, 2)
        facts.append((x, y, rng.randint(low, high)))
    return tuple(facts)
