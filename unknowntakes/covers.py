"""Sets of recordings as lists of bounds, and what is left of one without others.

A block is a list of limits (see bounds): the recordings that keep all of them. A piece
is outside a block if each of its recordings breaks one of the limits.
"""

from unknowntakes.bounds import is_barred, is_kept, lies_in, narrowed, needed_limits, open_limits, tightened


def is_apart(piece, block):
    """True if no recording of the piece is in the block."""
    return narrowed(piece, block) is None


def is_outside(piece, blocks):
    """True if no recording of the piece is in any of the blocks."""
    for block in blocks:
        if not is_apart(piece, block):
            return False
    return True


def is_within_one(piece, pieces):
    """True if one of the pieces has all recordings of this one."""
    for wide in pieces:
        if lies_in(piece, wide):
            return True
    return False


def live_blocks(piece, blocks):
    """The blocks that take some of the piece, without limits that all of it keeps.

    None if one of them takes all of it.
    """
    live = []
    for block in blocks:
        left = open_limits(piece, block)
        if left is not None:
            if not left:
                return None
            live.append(left)
    return live


def split_off(piece, block):
    """What is left of the piece without the block, in pieces that have nothing in common.

    None if the piece is outside the block, although each limit alone is kept somewhere.
    """
    outside = []
    rest = piece
    for x, y, number in block:
        if is_barred(rest, x, y, number):
            return None
        if not is_kept(rest, x, y, number):
            outside.append(tightened(rest, y, x, -number - 1))
            rest = tightened(rest, x, y, number)
    return outside


def smaller_pieces(piece, blocks):
    """The piece without one of the blocks, as a list of (piece, the blocks that remain)."""
    # The block with the fewest limits goes first: it leaves the fewest pieces.
    _, at = min([(len(block), at) for at, block in enumerate(blocks)])
    others = blocks[:at] + blocks[at + 1:]
    outside = split_off(piece, blocks[at])
    if outside is None:
        return [(piece, others)]
    return [(part, others) for part in outside]


def is_covered(piece, blocks):
    """True if each recording of the piece is in one of the blocks."""
    waiting = [(piece, blocks)]
    while waiting:
        part, others = waiting.pop()
        live = live_blocks(part, others)
        if live is not None:
            if not live:
                return False
            waiting.extend(smaller_pieces(part, live))
    return True


def widened(whole, piece, blocks):
    """A piece of the whole that has all of this one and is outside the blocks, too.

    Wide pieces swallow many small ones, so what is left over stays a short list.
    """
    limits = [limit for limit in needed_limits(piece) if not is_kept(whole, limit[0], limit[1], limit[2])]
    wide = piece
    for limit in list(limits):
        fewer = [other for other in limits if other != limit]
        candidate = narrowed(whole, fewer)
        if is_outside(candidate, blocks):
            limits = fewer
            wide = candidate
    return wide


def left_over_one(whole, blocks):
    """What is left of the whole without at most one block: for each limit of it what breaks this one."""
    if not blocks:
        return [whole]
    return [tightened(whole, y, x, -number - 1) for x, y, number in open_limits(whole, blocks[0])]


def left_over(whole, blocks):
    """Pieces that together have the recordings of the whole that are in none of the blocks."""
    touching = [block for block in blocks if not is_apart(whole, block)]
    if len(touching) < 2:
        return left_over_one(whole, touching)
    found = []
    waiting = [(whole, touching)]
    while waiting:
        piece, others = waiting.pop()
        if not is_within_one(piece, found):
            live = live_blocks(piece, others)
            if live is not None:
                if live:
                    waiting.extend(smaller_pieces(piece, live))
                else:
                    found.append(widened(whole, piece, touching))
    return found


def size_of(piece):
    """Something to sort by: nothing less than of any piece that lies in this one."""
    numbers = [number for row in piece for number in row if number is not None]
    return (-len(numbers), sum(numbers))


def slim(pieces):
    """The pieces without those that lie in another one."""
    kept = []
    for piece in sorted(pieces, key=size_of, reverse=True):
        if not is_within_one(piece, kept):
            kept.append(piece)
    return kept


def without_blocks(pieces, blocks):
    """Pieces with the recordings of these that are in none of the blocks."""
    left = []
    for piece in pieces:
        left.extend(left_over(piece, blocks))
    return slim(left)


def common_pieces(pieces, blocks):
    """Pieces with the recordings of these that are in one of the blocks."""
    common = []
    for piece in pieces:
        inside = [narrowed(piece, block) for block in blocks]
        common.extend(slim([part for part in inside if part is not None]))
    return slim(common)
