"""Where pins stand on tracks, and what goes in and out at them.

A spot of a pin is (track, at): the number of its track and its place in the row there,
-1 for a fixed pin at the beginning, the length of the row for one at the end.
"""


def spot_of_pin(tracks, rows, pin):
    """The spot of a pin, None if it does not stand on any track."""
    for track, row in enumerate(rows):
        if pin == f"<{tracks[track]}":
            return (track, -1)
        if pin == f"{tracks[track]}>":
            return (track, len(row))
        for at, item in enumerate(row):
            if item[0] is None and item[1] == pin:
                return (track, at)
    return None


def between(rows, one, two):
    """The items between two spots of one track, the second not ahead of the first."""
    return rows[one[0]][one[1] + 1:max(two[1], one[1] + 1)]


def with_row(rows, track, row):
    """The rows with another one for this track."""
    return (*rows[:track], row, *rows[track + 1:])


def put_in(rows, spot, items):
    """The rows with items directly behind a spot, but directly ahead of one at the end."""
    track, at = spot
    row = rows[track]
    goal = min(at + 1, len(row))
    return with_row(rows, track, (*row[:goal], *items, *row[goal:]))


def taken_out(rows, one, two):
    """The rows without the items between two spots."""
    row = rows[one[0]]
    return with_row(rows, one[0], (*row[:one[1] + 1], *row[max(two[1], one[1] + 1):]))


def spot_behind(spot, one, two):
    """The spot when the items between two others are taken out; it is not one between them."""
    track, at = spot
    many = max(two[1] - one[1] - 1, 0)
    return (track, at - many) if track == one[0] and at >= two[1] and at > one[1] else spot
