"""A slow player: tracks are kept moment by moment, pins and all, from the words of [8] to [13] alone.

A track is a list of ("moment", take, k), ("hush",) and ("pin", name), with its two fixed pins
("pin", "<voice") and ("pin", "voice>") as its first and last item.
"""

from itertools import product

import oracles


class End(Exception):
    """The run ends here, in this way."""


class Player:
    def __init__(self, sheet, program, numbers):
        self.worth = dict(zip(("zero",) + sheet.marks, (0,) + numbers))
        self.tracks = {track: [("pin", f"<{track}"), ("pin", f"{track}>")] for track in program.tracks}
        self.told = []
        self.count = 0
        self.end = None
        try:
            self.run(program.edits)
        except End as end:
            self.end = (self.step, str(end))

    def number(self, place):
        return self.worth[place[0]] + place[1]

    def wrong(self, bad, kind):
        if bad:
            raise End(kind)

    def size(self, edits):
        return sum(1 + (self.size(edit[2]) + self.size(edit[3]) if edit[0] == "if" else 0) for edit in edits)

    def run(self, edits):
        for edit in edits:
            self.step = self.count
            self.count += 1
            if edit[0] == "if":
                step, holds = self.step, self.test(*edit[1])
                self.told.append((step, self.rows()))
                if holds:
                    self.run(edit[2])
                    self.count += self.size(edit[3])
                else:
                    self.count += self.size(edit[2])
                    self.run(edit[3])
            else:
                getattr(self, f"do_{edit[0]}")(*edit[1:])
                self.told.append((self.step, self.rows()))

    def find(self, pin):
        """(track, index) of a pin, which must stand."""
        for track, items in self.tracks.items():
            if ("pin", pin) in items:
                return track, items.index(("pin", pin))
        raise End("unset")

    def insert(self, pin, items):
        track, at = self.find(pin)
        goal = at if pin.endswith(">") else at + 1
        self.tracks[track][goal:goal] = items

    def do_put(self, pin, take, start, end):
        self.find(pin)
        low, high = self.number(start), self.number(end)
        self.wrong(low < 0, "early")
        self.wrong(high > self.worth[take], "late")
        self.wrong(high < low, "backwards")
        self.insert(pin, [("moment", take, k) for k in range(low, high)])

    def do_hush(self, pin, many):
        self.insert(pin, [("hush",)] * many)

    def keep(self, take, kept):
        for track, items in self.tracks.items():
            self.tracks[track] = [item for item in items if item[:2] != ("moment", take) or kept(item[2])]

    def do_drop(self, take, start, end):
        low, high = self.number(start), self.number(end)
        self.wrong(high < low, "backwards")
        self.keep(take, lambda k: not low <= k < high)

    def do_only(self, take, start, end):
        low, high = self.number(start), self.number(end)
        self.wrong(high < low, "backwards")
        self.keep(take, lambda k: low <= k < high)

    def do_pin(self, name, side, take, place):
        moment = ("moment", take, self.number(place))
        many = sum(items.count(moment) for items in self.tracks.values())
        self.wrong(many == 0, "lost")
        self.wrong(many > 1, "twofold")
        for items in self.tracks.values():
            if ("pin", name) in items:
                items.remove(("pin", name))
        for items in self.tracks.values():
            if moment in items:
                items.insert(items.index(moment) + (side == "behind"), ("pin", name))

    def do_nudge(self, name, many):
        track, at = self.find(name)
        items = self.tracks[track]
        if many > 0:
            sounds = [k for k in range(at + 1, len(items)) if items[k][0] != "pin"]
            self.wrong(len(sounds) < many, "short")
            items.insert(sounds[many - 1] + 1, ("pin", name))
            del items[at]
        if many < 0:
            sounds = [k for k in range(at - 1, -1, -1) if items[k][0] != "pin"]
            self.wrong(len(sounds) < -many, "short")
            del items[at]
            items.insert(sounds[-many - 1], ("pin", name))

    def stretch(self, one, two, *more):
        (track, at), (other, behind) = self.find(one), self.find(two)
        for pin in more:
            self.find(pin)
        self.wrong(track != other, "apart")
        self.wrong(behind < at, "crossed")
        return track, at, behind

    def do_cut(self, one, two):
        track, at, behind = self.stretch(one, two)
        items = self.tracks[track]
        items[at:behind] = [item for k, item in enumerate(items[at:behind]) if item[0] == "pin"]

    def do_move(self, one, two, goal):
        track, at, behind = self.stretch(one, two, goal)
        items = self.tracks[track]
        part = items[at + 1:behind]
        self.wrong(("pin", goal) in part, "inside")
        del items[at + 1:at + 1 + len(part)]
        self.insert(goal, part)

    def do_copy(self, one, two, goal):
        track, at, behind = self.stretch(one, two, goal)
        self.insert(goal, [item for item in self.tracks[track][at:behind] if item[0] != "pin"])

    def do_ask(self, start, end):
        self.wrong(self.number(start) > self.number(end), "declined")

    def test(self, word, *parts):
        if word == "most":
            return self.number(parts[0]) <= self.number(parts[1])
        if word == "heard":
            moment = ("moment", parts[0], self.number(parts[1]))
            return any(moment in items for items in self.tracks.values())
        (track, at), (other, behind) = self.find(parts[0]), self.find(parts[1])
        part = self.tracks[track][min(at, behind):max(at, behind)]
        return track == other and sum(item[0] != "pin" for item in part) >= parts[2]

    def row(self, items):
        """Runs, and the pins that are not fixed, of items."""
        told = []
        for item in items:
            last = told[-1] if told else ("pin", "")
            if item[0] == "pin":
                if item[1][0] != "<" and item[1][-1] != ">":
                    told.append(item)
            elif item[0] == "hush":
                if last[0] == "":
                    told[-1] = ("", 0, last[2] + 1)
                else:
                    told.append(("", 0, 1))
            elif last[0] == item[1] and len(last) == 3 and last[2] == item[2]:
                told[-1] = (item[1], last[1], item[2] + 1)
            else:
                told.append((item[1], item[2], item[2] + 1))
        return tuple(told)

    def rows(self):
        return tuple(self.row(items) for items in self.tracks.values())

    def ended(self):
        step, kind = self.end
        return ("declined", step) if kind == "declined" else ("wrong", step, kind)

    def outcome(self):
        if self.end:
            return self.ended()
        return ("sound", tuple(self.row([item for item in items if item[0] != "pin"])
                               for items in self.tracks.values()))

    def standing(self):
        return self.ended() if self.end else ("sound", self.rows())

    def played(self):
        return self.told + ([self.end] if self.end else [])

    def sounds(self):
        """For each track the moments and hush on it, as (take, k) and ("", 0)."""
        return {track: [item[1:] if item[0] == "moment" else ("", 0) for item in items if item[0] != "pin"]
                for track, items in self.tracks.items()}

    def ahead(self, pin):
        """(how many moments and hush stand ahead of a pin), None if it does not stand."""
        for items in self.tracks.values():
            if ("pin", pin) in items:
                return sum(item[0] != "pin" for item in items[:items.index(("pin", pin))])
        return None
