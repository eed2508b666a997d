"""Pairs of a recording of some bounds and one of others that have the same numbers at some spots."""

from unknowntakes.bounds import least_numbers, narrowed
from unknowntakes.covers import is_outside, slim
from unknowntakes.pairs import pair_order


def seen_at(piece, spots):
    """What bounds say of these spots and of spot 0 alone: the first of them is spot 0, then come these."""
    return tuple([tuple([piece[x][y] for y in (0, *spots)]) for x in (0, *spots)])


def limits_at(piece, spots):
    """All limits that bounds set these spots."""
    limits = []
    for x in (0, *spots):
        for y in (0, *spots):
            if x != y and piece[x][y] is not None:
                limits.append((x, y, piece[x][y]))
    return limits


def slim_at(pieces, spots):
    """What the bounds say of these spots, without what is said of them by wider ones, too."""
    seen = {seen_at(piece, spots): True for piece in pieces}
    return slim(list(seen))


def are_apart_at(pieces, others, spots):
    """True if no recording of the pieces and one of the others have the same numbers at these spots."""
    every = list(range(1, len(spots) + 1))
    blocks = [limits_at(other, every) for other in slim_at(others, spots)]
    for piece in slim_at(pieces, spots):
        if not is_outside(piece, blocks):
            return False
    return True


def least_sum(pair):
    """The first part of (the sum of the least recording, the bounds)."""
    return pair[0]


def by_least(pieces):
    """(the sum of the least recording, the bounds), the least sum first."""
    return sorted([(sum(least_numbers(piece)), piece) for piece in pieces], key=least_sum)


def least_pair_of(piece, other, spots):
    """The order of the least pair of one recording of each that have the same numbers; None if there is none."""
    one = narrowed(piece, limits_at(other, spots))
    if one is None:
        return None
    # Each number that is left at the spots has recordings of both around it.
    two = narrowed(other, limits_at(piece, spots))
    return pair_order(least_numbers(one), least_numbers(two))


def least_sharing(pieces, others, spots):
    """The least pair of a recording of the pieces and one of the others that have the same numbers at these spots.

    None if there is none.
    """
    if are_apart_at(pieces, others, spots):
        return None
    best = None
    ranked = by_least(others)
    for low, piece in by_least(pieces):
        for high, other in ranked:
            if best is not None and low + high > best[0]:
                break
            found = least_pair_of(piece, other, spots)
            if found is not None and (best is None or found < best):
                best = found
    return best[1]
