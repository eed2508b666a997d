"""Programs played at one recording: rows with pins, step by step, and cue sheets."""

from unknowntakes.asking import clock_at, score_of
from unknowntakes.plays import begun, outcome_of, play
from unknowntakes.sounds import rows_at
from unknowntakes.steps import step_done


def standing(sheet, program, numbers):
    """The outcome of the program at a recording, with pins among the runs."""
    score = score_of(sheet, program)
    clock = clock_at(sheet, numbers)
    outcome = play(clock, score)
    return ("sound", rows_at(clock, outcome[1])) if outcome[0] == "sound" else outcome


def steps_played(sheet, program, numbers):
    """(step, rows) for each step that is done, and (step, how the run ends) if it ends at a step."""
    score = score_of(sheet, program)
    clock = clock_at(sheet, numbers)
    told = []
    step, rows, outcome = begun(score)
    while outcome is None:
        end, onward, rows = step_done(clock, score, step, rows)
        told.append((step, rows_at(clock, rows) if end is None else end))
        outcome = outcome_of(score, end, step, onward, rows)
        step = onward
    return told


def played(sheet, program, numbers):
    """(step, rows) for each step that is done, and (step, how the run ends) if it ends at a step."""
    for told in steps_played(sheet, program, numbers):
        yield told


def cue_lines(runs):
    """The lines of the runs of a track."""
    lines = []
    ahead = 0
    for number, (take, start, end) in enumerate(runs, start=1):
        word = take if take else "hush"
        lines.append(f"{number:>3} {word:<8} {ahead:>14} {start:>14} {end:>14}")
        ahead = ahead + end - start
    return lines


def sound_lines(tracks, rows):
    """The lines of a sound: for each track its name, then its runs."""
    lines = []
    for track, runs in zip(tracks, rows):
        lines.append(f"{track}:")
        lines.extend(cue_lines(runs))
    return lines


def outcome_lines(program, outcome):
    """The lines of an outcome of the program."""
    if outcome[0] == "sound":
        return sound_lines(program.tracks, outcome[1])
    if outcome[0] == "declined":
        return [f"declined: {outcome[1]}"]
    return [f"wrong: {outcome[1]} {outcome[2]}"]


def cue_sheet(program, outcome):
    """An outcome of the program as text."""
    return "".join([f"{line}\n" for line in outcome_lines(program, outcome)])
