"""Answers about all recordings, reckoned by playing the slow player at each of them, one by one."""

from collections import Counter

from oracles import order, recordings
from slow import Player


class World:
    """A sheet whose marks are at most top, a program, and a player for each recording."""

    def __init__(self, sheet, program, top):
        self.sheet, self.program = sheet, program
        self.rows = sorted(recordings(sheet.marks, sheet.facts, top), key=order)
        self.players = {row: Player(sheet, program, row) for row in self.rows}

    def sounds(self):
        """(recording, player) for each recording with a sound, the least first."""
        return [(row, self.players[row]) for row in self.rows if not self.players[row].end]

    def shapes(self):
        found = {}
        for row in self.rows:
            found.setdefault(shape_of(self.players[row].outcome()), row)
        return sorted(found.items())

    def ends(self, shape):
        tracks = [self.players[row].outcome()[1] for row in self.rows if shape_of(self.players[row].outcome()) == shape]
        told = []
        for track in range(len(tracks[0])):
            runs = []
            for run in range(len(tracks[0][track])):
                starts = [one[track][run][1] for one in tracks]
                stops = [one[track][run][2] for one in tracks]
                runs.append((min(starts), max(starts), min(stops), max(stops)))
            told.append(tuple(runs))
        return tuple(told)

    def in_range(self, player, take, P, Q):
        return range(max(0, player.number(P)), min(player.worth[take], player.number(Q)))

    def has(self, row, fault):
        """True if the recording has the fault, by the words of [15]."""
        player = self.players[row]
        outcome, word = player.outcome(), fault[0]
        if word in ("wrong", "declined"):
            return outcome[:len(fault)] == fault
        if outcome[0] != "sound":
            return False
        if word == "disorder":
            heard = [k for take, k in player.sounds()[fault[1]] if take == fault[2]]
            return any(heard[two] <= heard[one] for two in range(len(heard)) for one in range(two))
        if word == "blip":
            return any(run[0] and run[2] - run[1] < fault[1] for runs in outcome[1] for run in runs)
        counts = Counter(moment for moments in player.sounds().values() for moment in moments)
        many = [counts[fault[1], k] for k in self.in_range(player, *fault[1:])]
        return {"twice": any(n > 1 for n in many), "missing": 0 in many, "heard": any(many)}[word]

    def bad(self, faults):
        return [row for row in self.rows if any(self.has(row, fault) for fault in faults)]

    def times(self, take, P, Q):
        found = []
        for row, player in self.sounds():
            counts = Counter(moment for moments in player.sounds().values() for moment in moments)
            found += [(counts[take, k], order(row), k) for k in self.in_range(player, take, P, Q)]
        if not found:
            return None
        least = min(found)
        most = min((-number, place, k) for number, place, k in found)
        return (least[0], least[1][1], least[2]), (-most[0], most[1][1], most[2])

    def sum_of(self, found):
        """(lowest, highest, lowest_at, highest_at) of (number, recording); None if there are none."""
        if not found:
            return None
        low, high = min(number for number, _ in found), max(number for number, _ in found)
        at = [min((row for number, row in found if number == end), key=order) for end in (low, high)]
        return (low, high, *at)

    def gap(self, p, q):
        found = []
        for row, player in self.sounds():
            if player.ahead(p) is not None and player.ahead(q) is not None:
                found.append((player.ahead(q) - player.ahead(p), row))
        return self.sum_of(found)

    def lag(self, one, two, P, Q):
        found = []
        for row, player in self.sounds():
            first, second = player.sounds()[one[0]], player.sounds()[two[0]]
            for k in range(player.number(P), player.number(Q)):
                for at, moment in enumerate(first):
                    for behind, other in enumerate(second):
                        if moment == (one[1], k) and other == (two[1], k):
                            found.append((at - behind, row))
        return self.sum_of(found)


def shape_of(outcome):
    if outcome[0] != "sound":
        return outcome
    return ("sound", tuple(tuple(run[0] or str(run[2]) for run in row) for row in outcome[1]))
