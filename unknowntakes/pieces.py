"""What stands on a track: a row of pieces of takes, hush and pins.

A pin is (None, name), hush is ("", 0, n). A piece (take, lows, highs) has the moments k of
the take that are not below any of the lows and below each of the highs, which are spot
places (see clocks); perhaps it has none. So a piece can lose what is dropped without it
being known which place is ahead.
"""

from unknowntakes.clocks import is_most_known, shifted


def pin_of(name):
    """The pin as it stands in a row."""
    return (None, name)


def hush_of(many):
    """Hush as it stands in a row, in a tuple; () for none."""
    return (("", 0, many),) if many else ()


def piece_of(bounds, take, lows, highs):
    """The piece in a tuple; () if it is known to be empty."""
    for high in highs:
        for low in lows:
            if is_most_known(bounds, high, low):
                return ()
    return ((take, lows, highs),)


def with_low(bounds, lows, place):
    """The lows with one more, without those that are known to say nothing."""
    for low in lows:
        if is_most_known(bounds, place, low):
            return lows
    return (*[low for low in lows if not is_most_known(bounds, low, place)], place)


def with_high(bounds, highs, place):
    """The highs with one more, without those that are known to say nothing."""
    for high in highs:
        if is_most_known(bounds, high, place):
            return highs
    return (*[high for high in highs if not is_most_known(bounds, place, high)], place)


def has_many(clock, piece, many):
    """True if the piece has so many moments; many is 1 or more."""
    for low in piece[1]:
        start = shifted(low, many)
        for high in piece[2]:
            if not clock.is_most(start, high):
                return False
    return True


def is_in(clock, piece, place):
    """True if the piece has the moment of this number."""
    for low in piece[1]:
        if not clock.is_most(low, place):
            return False
    for high in piece[2]:
        if not clock.is_less(place, high):
            return False
    return True


def many_of(clock, item, most):
    """How many moments or hush a piece or hush has, but not more than most."""
    if item[0] == "":
        return min(item[2], most)
    # Which low and which high count is settled once, not for each number anew.
    low, high = clock.greatest_of(item[1]), clock.least_of(item[2])
    for many in range(most, 0, -1):
        if clock.is_most(shifted(low, many), high):
            return many
    return 0


def split_behind(clock, item, many):
    """What is left of a piece or hush up to behind so many of it, and from there on; it has so many."""
    if item[0] == "":
        return hush_of(many), hush_of(item[2] - many)
    take, lows, highs = item
    low = clock.greatest_of(lows)
    place = shifted(low, many)
    return ((take, (low,), (place,)),), piece_of(clock.bounds, take, (place,), highs)


def split_ahead(clock, item, many):
    """What is left of a piece or hush up to ahead of the last so many of it, and from there on."""
    if item[0] == "":
        return hush_of(item[2] - many), hush_of(many)
    take, lows, highs = item
    high = clock.least_of(highs)
    place = shifted(high, -many)
    return piece_of(clock.bounds, take, lows, (place,)), ((take, (place,), (high,)),)


def settled(clock, piece):
    """(low, high): the piece has the moments from low up to before high; None if it has none."""
    low = clock.greatest_of(piece[1])
    high = clock.least_of(piece[2])
    return (low, high) if clock.is_most(low, high) else None


def joins(clock, highs, lows):
    """True if what ends at the highs is followed at once by what begins at the lows; neither is empty."""
    for high in highs:
        for low in lows:
            if not clock.is_most(low, high):
                return False
    for high in highs:
        for low in lows:
            if clock.is_most(high, low):
                return True
    return False


def goes_on(bounds, piece, other):
    """True if the other piece is known to begin just where this one ends, even if one of them is empty."""
    if piece[0] != other[0] or len(other[1]) != 1 or piece[2] != other[1]:
        return False
    place = other[1][0]
    for low in piece[1]:
        if not is_most_known(bounds, low, place):
            return False
    for high in other[2]:
        if not is_most_known(bounds, place, high):
            return False
    return True


def without_pins(bounds, items):
    """The items without pins; what only pins kept apart is one piece."""
    left = []
    for item in items:
        if item[0] is not None:
            if left and item[0] != "" and goes_on(bounds, left[-1], item):
                left[-1] = (item[0], left[-1][1], item[2])
            else:
                left.append(item)
    return left


def runs_of(clock, items):
    """The runs of items, pins aside, each like a piece or hush that is not empty."""
    runs = []
    for item in without_pins(clock.bounds, items):
        last = runs[-1] if runs else (None,)
        if item[0] == "":
            if last[0] == "":
                runs[-1] = ("", 0, last[2] + item[2])
            else:
                runs.append(item)
        elif has_many(clock, item, 1):
            if last[0] == item[0] and joins(clock, last[2], item[1]):
                runs[-1] = (item[0], last[1], item[2])
            else:
                runs.append(item)
    return runs
