"""Trees of asks that lead each recording to a leaf, and whether their leaves are right."""

from unknowntakes.alike import are_given, given_rows
from unknowntakes.asking import is_place_of, score_of
from unknowntakes.bounds import narrowed
from unknowntakes.edits import word_of
from unknowntakes.errors import BadTree, NotRecording
from unknowntakes.faults import check_faults, faults_on, is_bad
from unknowntakes.kinds import is_whole
from unknowntakes.plays import is_anywhere, played_tree
from unknowntakes.sheets import all_facts, is_fact, names_of, spots_of
from unknowntakes.sounds import outcome_in_places
from unknowntakes.steps import place_on
from unknowntakes.verdicts import plain_results


def is_ask_row(row):
    """True for a row that begins with "ask"; the others are leaves."""
    return len(row) > 0 and isinstance(row[0], str) and row[0] == "ask"


def is_good_ask(row, names, at, named):
    """True if an ask asks of unlike names of these, and goes on to two rows behind it that are not named before."""
    if len(row) != 6 or not is_fact(row[1:4], names):
        return False
    yes, no = row[4], row[5]
    if not is_whole(yes) or not is_whole(no) or yes == no:
        return False
    return at < yes < len(named) and at < no < len(named) and not named[yes] and not named[no]


def check_tree(sheet, tree):
    """BadTree for the first ask that is bad, then for the first row that is not named."""
    names = names_of(sheet.marks)
    named = [at == 0 for at in range(len(tree))]
    for at, row in enumerate(tree):
        if is_ask_row(row):
            if not is_good_ask(row, names, at, named):
                raise BadTree(at)
            named[row[4]] = True
            named[row[5]] = True
    if not tree:
        raise BadTree(0)
    for at, there in enumerate(named):
        if not there:
            raise BadTree(at)


def follow(sheet, tree, numbers):
    """The leaf to which a recording goes."""
    if numbers not in sheet:
        raise NotRecording()
    check_tree(sheet, tree)
    clock, spots = (0, *numbers), spots_of(sheet.marks)
    at = 0
    while is_ask_row(tree[at]):
        _, x, y, number, yes, no = tree[at]
        at = yes if clock[spots[x]] - clock[spots[y]] <= number else no
    return tree[at]


def leaves_told(sheet, tree):
    """(leaf, its facts, their bounds) for each leaf of a tree that is not bad; None for bounds without recordings."""
    spots = spots_of(sheet.marks)
    found = []
    waiting = [(0, sheet.facts, sheet.bounds)]
    while waiting:
        at, facts, bounds = waiting.pop()
        if is_ask_row(tree[at]):
            _, x, y, number, yes, no = tree[at]
            for to, fact in ((yes, (x, y, number)), (no, (y, x, -number - 1))):
                limit = (spots[fact[0]], spots[fact[1]], fact[2])
                waiting.append((to, (*facts, fact), None if bounds is None else narrowed(bounds, [limit])))
        else:
            found.append((tree[at], facts, bounds))
    return found


def is_ring(sheet, facts, ring):
    """True if this is a ring of these facts, and of those of the marks that need no saying."""
    known = all_facts(sheet.marks, facts)
    names = names_of(sheet.marks)
    if not isinstance(ring, tuple) or not ring or not all([is_fact(fact, names) and fact in known for fact in ring]):
        return False
    onward = [fact[1] == behind[0] for fact, behind in zip(ring, ring[1:] + ring[:1])]
    return all(onward) and sum([number for _, _, number in ring]) < 0


def is_none_leaf(sheet, leaf, facts):
    """True for a right leaf of facts without recordings."""
    return word_of(leaf) == "none" and len(leaf) == 2 and is_ring(sheet, facts, leaf[1])


def is_always(score, bounds, holds):
    """True if holds(clock, outcome) at all recordings of the bounds."""
    return not is_anywhere((score,), bounds, lambda clock, outcome: not holds(clock, outcome))


def is_sound_leaf(sheet, score, leaf, bounds):
    """True if the sound of a leaf is the outcome at all recordings of the bounds."""
    if len(leaf) != 2:
        return False
    rows = given_rows(
        score.tracks, leaf[1], lambda place: place_on(score.spots, place) if is_place_of(sheet, place) else None)
    return rows is not None and is_always(score, bounds, lambda clock, outcome: are_given(clock, outcome, rows))


def is_outcome_leaf(sheet, score, leaf, bounds):
    """True if the leaf tells the outcome at all recordings of the bounds."""
    word = word_of(leaf)
    if word == "sound":
        return is_sound_leaf(sheet, score, leaf, bounds)
    if word != "wrong" and word != "declined":
        return False
    return len(leaf) > 1 and is_whole(leaf[1]) and is_always(score, bounds, lambda clock, outcome: outcome == leaf)


def is_verdict_leaf(score, faults, leaf, bounds):
    """True if the leaf tells of all recordings of the bounds whether they have one of the faults."""
    if leaf != ("good",) and leaf != ("bad",):
        return False
    return is_always(
        score, bounds, lambda clock, outcome: is_bad(clock, score, outcome, faults) == (leaf == ("bad",)))


def are_leaves(sheet, tree, is_leaf):
    """True if each leaf is a right "none", or has recordings and is one as is_leaf(leaf, bounds) tells."""
    check_tree(sheet, tree)
    for leaf, facts, bounds in leaves_told(sheet, tree):
        if not is_none_leaf(sheet, leaf, facts) and (bounds is None or not is_leaf(leaf, bounds)):
            return False
    return True


def is_outcome_tree(sheet, program, tree):
    """True if each leaf tells the outcome of the program at its recordings."""
    score = score_of(sheet, program)
    return are_leaves(sheet, tree, lambda leaf, bounds: is_outcome_leaf(sheet, score, leaf, bounds))


def is_verdict_tree(sheet, program, tree, *faults):
    """True if each leaf tells whether its recordings have one of the faults."""
    score = score_of(sheet, program)
    check_faults(sheet, program, faults)
    rows = faults_on(faults, score.spots)
    return are_leaves(sheet, tree, lambda leaf, bounds: is_verdict_leaf(score, rows, leaf, bounds))


def tree_of(sheet, branches, leaf_of):
    """The rows of a tree; leaf_of makes leaves of results. Branches with one result alone are one leaf."""
    names = names_of(sheet.marks)
    results = plain_results(branches)
    rows = [()]
    waiting = [(0, 0)]
    while waiting:
        at, number = waiting.pop()
        if results[at] is None:
            x, y, most = branches[at].limit
            yes, no = len(rows), len(rows) + 1
            rows[number] = ("ask", names[x], names[y], most, yes, no)
            rows.extend([(), ()])
            waiting.extend([(branches[at].no, no), (branches[at].yes, yes)])
        else:
            rows[number] = leaf_of(results[at])
    return rows


def named_run(names, run):
    """A run in places of the sheet, made of one in spot places."""
    if run[0] == "":
        return run
    take, (low, start), (high, stop) = run
    return (take, (names[low], start), (names[high], stop))


def named_outcome(names, outcome):
    """An outcome in places of the sheet, made of one in spot places."""
    if outcome[0] != "sound":
        return outcome
    return ("sound", tuple([tuple([named_run(names, run) for run in runs]) for runs in outcome[1]]))


def outcome_tree(sheet, program):
    """A tree that tells the outcome of the program at each recording."""
    score = score_of(sheet, program)
    branches = played_tree((score,), sheet.bounds, outcome_in_places)
    names = names_of(sheet.marks)
    return tree_of(sheet, branches, lambda outcome: named_outcome(names, outcome))


def verdict_tree(sheet, program, *faults):
    """A tree that tells of each recording whether it has one of the faults."""
    score = score_of(sheet, program)
    check_faults(sheet, program, faults)
    rows = faults_on(faults, score.spots)
    branches = played_tree((score,), sheet.bounds, lambda clock, outcome: is_bad(clock, score, outcome, rows))
    return tree_of(sheet, branches, lambda bad: ("bad",) if bad else ("good",))
