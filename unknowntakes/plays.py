"""Programs played at all recordings of bounds at once: a tree of what clocks ask.

An outcome is ("sound", rows), ("wrong", step, kind) or ("declined", step); rows as in pieces.
"""

from unknowntakes.clocks import Clock
from unknowntakes.steps import step_done


class Branch:
    """A part of the recordings: a leaf with a result, or a question with a branch for yes and one for no."""

    def __init__(self, bounds):
        self.bounds = bounds
        self.limit = None
        self.yes = None
        self.no = None
        self.result = None


def outcome_of(score, end, step, onward, rows):
    """The outcome if the run ends with this step, else None."""
    if end == "declined":
        return ("declined", step)
    if end is not None:
        return ("wrong", step, end)
    return ("sound", rows) if onward == len(score.steps) else None


def first_outcome(score):
    """The outcome of a program without steps, else None."""
    return None if score.steps else ("sound", score.start())


def play(clock, score):
    """The outcome at all recordings that the clock has at the end."""
    rows = score.start()
    outcome = first_outcome(score)
    step = 0
    while outcome is None:
        end, onward, rows = step_done(clock, score, step, rows)
        outcome = outcome_of(score, end, step, onward, rows)
        step = onward
    return outcome


def branched(branches, at, clock):
    """The branches of what a clock asked at a branch: (leaf, the branches of a no), as numbers."""
    leaf = at
    others = []
    for turn in clock.turns:
        branch = branches[leaf]
        branch.limit = turn.limit
        branch.yes, branch.no = len(branches), len(branches) + 1
        branches.extend([Branch(turn.yes), Branch(turn.no)])
        leaf = branch.yes
        others.append(branch.no)
    return leaf, others


def played_tree(score, bounds, finish):
    """The branches, the first one with all recordings of the bounds, each leaf with what finish makes of its outcome.

    finish takes a clock, too, and may ask it.
    """
    branches = [Branch(bounds)]
    waiting = [(0, 0, score.start(), first_outcome(score))]
    while waiting:
        at, step, rows, outcome = waiting.pop()
        clock = Clock(branches[at].bounds)
        if outcome is None:
            end, onward, left = step_done(clock, score, step, rows)
            leaf, others = branched(branches, at, clock)
            waiting.append((leaf, onward, left, outcome_of(score, end, step, onward, left)))
        else:
            result = finish(clock, outcome)
            leaf, others = branched(branches, at, clock)
            ended = branches[leaf]
            ended.result = result
        waiting.extend([(other, step, rows, outcome) for other in others])
    return branches


def sounds_of(score, bounds):
    """(bounds, rows) for bounds that are together all recordings with a sound."""
    branches = played_tree(score, bounds, lambda clock, outcome: outcome)
    leaves = [(branch.bounds, branch.result) for branch in branches if branch.yes is None]
    return [(leaf, outcome[1]) for leaf, outcome in leaves if outcome[0] == "sound"]
