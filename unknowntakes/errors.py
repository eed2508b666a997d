"""The errors of the program: each stands directly below TakesError and names its fields."""


class TakesError(ValueError):
    """The base class of all errors of this program."""


class BadMarks(TakesError):
    """The mark of this index is no name, "zero", or there before."""

    def __init__(self, index):
        super().__init__(f"mark {index} is bad")
        self.index = index


class BadTakes(TakesError):
    """The take of this index is no mark, or there before."""

    def __init__(self, index):
        super().__init__(f"take {index} is bad")
        self.index = index


class BadFact(TakesError):
    """The fact of this index is no fact, or is not there."""

    def __init__(self, index):
        super().__init__(f"fact {index} is bad")
        self.index = index


class Contradiction(TakesError):
    """There is no recording: the numbers of the facts in this ring add up to less than 0."""

    def __init__(self, ring):
        super().__init__(f"no recording keeps to all of {ring}")
        self.ring = ring


class UnknownName(TakesError):
    """This name means nothing here."""

    def __init__(self, name):
        super().__init__(f"unknown name {name!r}")
        self.name = name


class UnlikeMarks(TakesError):
    """Two sheets have unlike marks or takes."""

    def __init__(self):
        super().__init__("the marks or takes are not equal")


class BadNumbers(TakesError):
    """There are not as many numbers as marks."""

    def __init__(self):
        super().__init__("not as many numbers as marks")


class BadTracks(TakesError):
    """The track of this index is no name, or there before, or there is none."""

    def __init__(self, index):
        super().__init__(f"track {index} is bad")
        self.index = index


class BadEdit(TakesError):
    """This step is no edit."""

    def __init__(self, step):
        super().__init__(f"step {step} is no edit")
        self.step = step


class BadStep(TakesError):
    """There is no such step."""

    def __init__(self, step):
        super().__init__(f"no step {step}")
        self.step = step


class BadPlace(TakesError):
    """The place of this index is no place, or is not there."""

    def __init__(self, index):
        super().__init__(f"place {index} is bad")
        self.index = index


class BadText(TakesError):
    """No text of this kind has this line there; lines are counted from 1."""

    def __init__(self, line):
        super().__init__(f"line {line} is bad")
        self.line = line


class NotRecording(TakesError):
    """The numbers are no recording of the sheet."""

    def __init__(self):
        super().__init__("not a recording of the sheet")


class UnlikeTracks(TakesError):
    """Two programs do not have the same tracks in the same order."""

    def __init__(self):
        super().__init__("the tracks are not equal")


class NoShape(TakesError):
    """No recording has a sound of this shape."""

    def __init__(self):
        super().__init__("no sound has this shape")


class BadFault(TakesError):
    """The fault of this index is no fault, or there is none."""

    def __init__(self, index):
        super().__init__(f"fault {index} is bad")
        self.index = index


class BadPairs(TakesError):
    """There are not as many places on both sides."""

    def __init__(self):
        super().__init__("not as many places to add as to take away")


class NotSure(TakesError):
    """The answer is not sure: this recording is bad."""

    def __init__(self, recording):
        super().__init__(f"recording {recording} is bad")
        self.recording = recording


class BadTree(TakesError):
    """The row of this index is not as rows of a tree are."""

    def __init__(self, index):
        super().__init__(f"row {index} is bad")
        self.index = index


class NameTaken(TakesError):
    """There is something of this name already."""

    def __init__(self, name):
        super().__init__(f"the name {name!r} is taken")
        self.name = name


class NoBranch(TakesError):
    """There is no branch of this name."""

    def __init__(self, name):
        super().__init__(f"no branch {name!r}")
        self.name = name


class NoWatch(TakesError):
    """There is no watch of this name."""

    def __init__(self, name):
        super().__init__(f"no watch {name!r}")
        self.name = name


class NothingToUndo(TakesError):
    """No deed was done that could be taken back."""

    def __init__(self):
        super().__init__("nothing to undo")


class BadDeed(TakesError):
    """The tuple of this index is no deed."""

    def __init__(self, index):
        super().__init__(f"deed {index} is bad")
        self.index = index


class CouldGoWrong(TakesError):
    """With the edit, this step goes wrong in this way at this recording."""

    def __init__(self, step, kind, recording):
        super().__init__(f"step {step} is {kind} at recording {recording}")
        self.step = step
        self.kind = kind
        self.recording = recording
