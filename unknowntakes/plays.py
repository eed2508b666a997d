"""Programs played at all recordings of bounds at once: a tree of what clocks ask.

An outcome is ("sound", rows), ("wrong", step, kind) or ("declined", step); rows as in pieces.
A run is (the step that comes next, rows, outcome), its outcome None as long as it goes on.
Several programs are played one behind the other on the same bounds; finish takes a clock and
the outcome of each, and may ask the clock.
"""

from unknowntakes.clocks import Clock
from unknowntakes.steps import step_done


class Branch:
    """A part of the recordings: a leaf with a result, or a question with a branch for yes and one for no."""

    def __init__(self, bounds):
        self.bounds = bounds
        self.limit = None
        self.yes = None
        self.no = None
        self.result = None


def outcome_of(score, end, step, onward, rows):
    """The outcome if the run ends with this step, else None."""
    if end == "declined":
        return ("declined", step)
    if end is not None:
        return ("wrong", step, end)
    return ("sound", rows) if onward == len(score.steps) else None


def begun(score):
    """The run of a program when no step is done."""
    rows = score.blank_rows()
    return (0, rows, None if score.steps else ("sound", rows))


def run_on(clock, score, run):
    """The run when its next step is done."""
    step, rows, _ = run
    end, onward, left = step_done(clock, score, step, rows)
    return (onward, left, outcome_of(score, end, step, onward, left))


def play(clock, score):
    """The outcome at all recordings that the clock has at the end."""
    run = begun(score)
    while run[2] is None:
        run = run_on(clock, score, run)
    return run[2]


def begun_all(scores):
    """The runs of several programs when no step is done."""
    return tuple([begun(score) for score in scores])


def gone_on(clock, scores, runs, finish):
    """(False, the runs when the first one that is not over goes on), or (True, the result) if all are over."""
    for at, run in enumerate(runs):
        if run[2] is None:
            return False, (*runs[:at], run_on(clock, scores[at], run), *runs[at + 1:])
    outcomes = [outcome for _, _, outcome in runs]
    return True, finish(clock, *outcomes)


def branched(branches, at, clock):
    """The branches of what a clock asked at a branch: (leaf, the branches of a no), as numbers."""
    leaf = at
    others = []
    for turn in clock.turns:
        branch = branches[leaf]
        branch.limit = turn.limit
        branch.yes, branch.no = len(branches), len(branches) + 1
        branches.extend([Branch(turn.yes), Branch(turn.no)])
        leaf = branch.yes
        others.append(branch.no)
    return leaf, others


def played_tree(scores, bounds, finish):
    """The branches, the first one with all recordings of the bounds, each leaf with what finish makes of it."""
    branches = [Branch(bounds)]
    waiting = [(0, begun_all(scores))]
    while waiting:
        at, runs = waiting.pop()
        clock = Clock(branches[at].bounds)
        over, onward = gone_on(clock, scores, runs, finish)
        leaf, others = branched(branches, at, clock)
        if over:
            ended = branches[leaf]
            ended.result = onward
        else:
            waiting.append((leaf, onward))
        waiting.extend([(other, runs) for other in others])
    return branches


def leaves_of(branches):
    """(bounds, result) of each leaf."""
    return [(branch.bounds, branch.result) for branch in branches if branch.yes is None]


def outcomes_of(score, bounds):
    """(bounds, outcome) for bounds that are together all of these."""
    return leaves_of(played_tree((score,), bounds, lambda clock, outcome: outcome))


def sounds_of(score, bounds):
    """(bounds, rows) for bounds that are together all recordings with a sound."""
    return [(leaf, outcome[1]) for leaf, outcome in outcomes_of(score, bounds) if outcome[0] == "sound"]


def least_where(scores, bounds, finish, order):
    """The least order(leaf) of the bounds of all leaves where the result is True; None if there are none.

    The order of some bounds is not above that of any bounds that lie in them.
    """
    best = None
    waiting = [(bounds, begun_all(scores))]
    while waiting:
        part, runs = waiting.pop()
        # What can't be less than what is found need not be played to its end.
        if best is None or order(part) < best:
            clock = Clock(part)
            over, onward = gone_on(clock, scores, runs, finish)
            waiting.extend([(turn.no, runs) for turn in clock.turns])
            if not over:
                waiting.append((clock.bounds, onward))
            elif onward and (best is None or order(clock.bounds) < best):
                best = order(clock.bounds)
    return best


def same_order(bounds):
    """An order in which nothing is less than anything else."""
    return 0


def is_anywhere(scores, bounds, finish):
    """True if the result of some leaf is True."""
    return least_where(scores, bounds, finish, same_order) is not None
