"""Clocks: which of two places is ahead, at one recording or at all recordings of some bounds.

A spot place is (spot, amount): the number of the spot (see bounds) plus the amount.
Whatever is reckoned with the answers of a clock holds at all recordings of the bounds
that the clock has at the end. What it holds of the other recordings is reckoned again
with clocks of their own, one for each turn.
"""

from unknowntakes.bounds import tightened

ZERO = (0, 0)


def shifted(place, amount):
    """The spot place that is this much greater."""
    return (place[0], place[1] + amount)


def is_most_known(bounds, one, two):
    """True if one is at most two at all recordings."""
    most = bounds[one[0]][two[0]]
    return most is not None and most <= two[1] - one[1]


class Turn:
    """A question of a clock with two answers: the limit, and the bounds of a yes and of a no."""

    def __init__(self, limit, yes, no):
        self.limit = limit
        self.yes = yes
        self.no = no


class Clock:
    """Bounds that become narrower when a question has two answers: the clock takes the yes."""

    def __init__(self, bounds):
        self.bounds = bounds
        self.turns = []

    def is_most(self, one, two):
        """True if one is at most two, from now on at all recordings of the bounds."""
        x, y = one[0], two[0]
        number = two[1] - one[1]
        most = self.bounds[x][y]
        if most is not None and most <= number:
            return True
        back = self.bounds[y][x]
        if back is not None and back + number < 0:
            return False
        no = tightened(self.bounds, y, x, -number - 1)
        self.bounds = tightened(self.bounds, x, y, number)
        self.turns.append(Turn((x, y, number), self.bounds, no))
        return True

    def is_less(self, one, two):
        """True if one is less than two."""
        return self.is_most((one[0], one[1] + 1), two)

    def greatest_of(self, places):
        """One of the places that are greatest."""
        best = places[0]
        for place in places[1:]:
            if self.is_most(best, place):
                best = place
        return best

    def least_of(self, places):
        """One of the places that are least."""
        best = places[0]
        for place in places[1:]:
            if self.is_most(place, best):
                best = place
        return best


def point_bounds(numbers):
    """The bounds of one recording alone."""
    clock = (0, *numbers)
    return tuple([tuple([here - there for there in clock]) for here in clock])


def ways(bounds, decide):
    """(bounds, what decide makes of a clock of theirs) for bounds that are apart and together all of these."""
    waiting = [bounds]
    found = []
    while waiting:
        clock = Clock(waiting.pop())
        result = decide(clock)
        found.append((clock.bounds, result))
        waiting.extend([turn.no for turn in clock.turns])
    return found
