"""Trees of two results as two families."""

from unknowntakes.families import Family
from unknowntakes.sheets import sheet_of


def plain_results(branches):
    """For each branch the result that all its leaves have, None if they have unlike ones."""
    results = [branch.result for branch in branches]
    # A branch of a question stands behind it.
    for at in range(len(branches) - 1, -1, -1):
        branch = branches[at]
        if branch.yes is not None and results[branch.yes] == results[branch.no]:
            results[at] = results[branch.yes]
    return results


def plain_leaves(branches):
    """(bounds, result) of as few branches as have all leaves."""
    results = plain_results(branches)
    found = []
    waiting = [0]
    while waiting:
        at = waiting.pop()
        if results[at] is None:
            waiting.extend([branches[at].no, branches[at].yes])
        else:
            found.append((branches[at].bounds, results[at]))
    return found


def parted(branches):
    """(bounds with the result True, bounds with False): as few branches as have all of them."""
    leaves = plain_leaves(branches)
    return [bounds for bounds, bad in leaves if bad], [bounds for bounds, bad in leaves if not bad]


def family_with(sheet, pieces):
    """The family of the pieces of a sheet; all of it is the sheet itself."""
    parts = [
        sheet if piece == sheet.bounds else sheet_of(sheet.marks, sheet.takes, piece) for piece in pieces]
    return Family(*parts)
