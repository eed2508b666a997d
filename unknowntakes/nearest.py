"""How near the recordings of bounds come to given numbers.

The clock is 0 and the numbers, one for each spot; at the spots where loose is 1 a
recording may differ from the clock by the distance, at those where it is 0 not at all.
"""


def distance_to(bounds, clock, loose):
    """The least distance at which there is a recording, None if there is none."""
    distance = 0
    for x, row in enumerate(bounds):
        for y, most in enumerate(row):
            gap = 0 if most is None else clock[x] - clock[y] - most
            if gap > 0:
                # Only what x and y give way closes the gap: each one by the distance, if it may.
                share = loose[x] + loose[y]
                if share == 0:
                    return None
                distance = max(distance, (gap + share - 1) // share)
    return distance


def least_near(bounds, clock, loose, distance):
    """The least recording at this distance, at which there is one."""
    spots = range(len(bounds))
    lows = [clock[spot] - loose[spot] * distance for spot in spots]
    rows = [[lows[y] - bounds[y][x] for y in spots if bounds[y][x] is not None] for x in spots]
    return tuple([max(row) for row in rows[1:]])
