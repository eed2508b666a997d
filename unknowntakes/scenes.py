"""Scenes: what a table holds at one time. A scene never changes; each deed makes a new one."""

from unknowntakes.asking import check_names, score_of
from unknowntakes.clocks import ways
from unknowntakes.errors import NameTaken, NoBranch
from unknowntakes.faults import check_faults, faults_on, is_bad
from unknowntakes.plays import outcomes_of


class Scene:
    """A ground, which is a sheet, a draft for each branch, which is a program, and the branch that is present.

    watched has the faults of each watch, states the state of each for the ground and the present draft.
    """

    def __init__(self, ground, drafts, present, watched, states):
        self.ground = ground
        self.drafts = drafts
        self.present = present
        self.watched = watched
        self.states = states

    def draft(self):
        """The present draft."""
        return self.drafts[self.present]


def verdicts_at(bounds, score, outcome, faults):
    """Whether there are recordings with a fault, and without one, in a list."""
    return [bad for _, bad in ways(bounds, lambda clock: is_bad(clock, score, outcome, faults))]


def state_told(leaves, score, faults):
    """The state (see Finding) for leaves (bounds, outcome) that have all recordings."""
    found = []
    for bounds, outcome in leaves:
        found.extend(verdicts_at(bounds, score, outcome, faults))
        if True in found and False in found:
            return "open"
    return "never" if True in found else "sure"


def states_of(ground, draft, watched):
    """The states of watches."""
    if not watched:
        return {}
    score = score_of(ground, draft)
    leaves = outcomes_of(score, ground.bounds)
    return {name: state_told(leaves, score, faults_on(watched[name], score.spots)) for name in watched}


def changes(scene, other):
    """The watches of both scenes whose states are not the same, in the order in which they were named."""
    return [name for name in scene.states if name in other.states and scene.states[name] != other.states[name]]


def with_ground(scene, ground):
    """The scene with a sheet that has another mark: what is there does not speak of it."""
    return Scene(ground, scene.drafts, scene.present, scene.watched, scene.states)


def with_closer_ground(scene, ground):
    """The scene with a sheet with further facts."""
    if ground.bounds == scene.ground.bounds:
        return with_ground(scene, ground)
    # With a further fact sure stays sure, and never stays never.
    left = {name: scene.watched[name] for name in scene.watched if scene.states[name] == "open"}
    told = states_of(ground, scene.draft(), left)
    states = {name: told.get(name, scene.states[name]) for name in scene.states}
    return Scene(ground, scene.drafts, scene.present, scene.watched, states)


def with_draft(scene, draft):
    """The scene with another present draft."""
    check_names(scene.ground, draft)
    states = states_of(scene.ground, draft, scene.watched)
    return Scene(scene.ground, {**scene.drafts, scene.present: draft}, scene.present, scene.watched, states)


def with_branch(scene, name):
    """The scene with a new branch, which is present."""
    if name in scene.drafts:
        raise NameTaken(name)
    return Scene(scene.ground, {**scene.drafts, name: scene.draft()}, name, scene.watched, scene.states)


def check_branch(scene, name):
    """NoBranch if there is no such branch."""
    if name not in scene.drafts:
        raise NoBranch(name)


def with_present(scene, name):
    """The scene with this branch present."""
    check_branch(scene, name)
    states = scene.states
    if scene.drafts[name] != scene.draft():
        states = states_of(scene.ground, scene.drafts[name], scene.watched)
    return Scene(scene.ground, scene.drafts, name, scene.watched, states)


def with_watch(scene, name, faults):
    """The scene with one more watch."""
    if name in scene.watched:
        raise NameTaken(name)
    check_faults(scene.ground, scene.draft(), faults)
    told = states_of(scene.ground, scene.draft(), {name: faults})
    states = {**scene.states, name: told[name]}
    return Scene(scene.ground, scene.drafts, scene.present, {**scene.watched, name: faults}, states)
