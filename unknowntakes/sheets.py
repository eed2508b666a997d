"""Sheets: facts about how far marks can lie apart, and the recordings that keep to them."""

from unknowntakes.bounds import fits, free_bounds, is_barred, is_kept, least_numbers, lies_in, needed_limits, tightened
from unknowntakes.errors import BadFact, BadMarks, BadTakes, BadText, Contradiction, UnknownName, UnlikeMarks
from unknowntakes.kinds import are_numbers, is_name, is_whole
from unknowntakes.texts import check_lines, list_line, listed, number_of


def names_of(marks):
    """What a fact can speak of; a name's place here is its spot in the bounds."""
    return ("zero",) + marks


def spots_of(marks):
    """The spot of each name in the bounds."""
    return {name: spot for spot, name in enumerate(names_of(marks))}


def first_bad_mark(marks):
    """The index of the first mark that is no name, "zero" or there before; None if all are good."""
    for at, mark in enumerate(marks):
        if not is_name(mark) or mark == "zero" or mark in marks[:at]:
            return at
    return None


def first_bad_take(marks, takes):
    """The index of the first take that is no mark or there before; None if all are good."""
    for at, take in enumerate(takes):
        if take not in marks or take in takes[:at]:
            return at
    return None


def is_fact(fact, names):
    """True if this is (x, y, c): x and y two unlike names of these, c an integer."""
    if not isinstance(fact, tuple) or len(fact) != 3:
        return False
    x, y, number = fact
    return x in names and y in names and x != y and is_whole(number)


def first_bad_fact(marks, facts):
    """The index of the first fact that is none about these marks; None if all are good."""
    names = names_of(marks)
    for at, fact in enumerate(facts):
        if not is_fact(fact, names):
            return at
    return None


def check_parts(marks, takes, facts):
    """The errors of a sheet's parts, contradictions aside."""
    at = first_bad_mark(marks)
    if at is not None:
        raise BadMarks(at)
    at = first_bad_take(marks, takes)
    if at is not None:
        raise BadTakes(at)
    at = first_bad_fact(marks, facts)
    if at is not None:
        raise BadFact(at)


def all_facts(marks, facts):
    """The facts, and those of the marks that need no saying."""
    return [*facts, *[("zero", mark, 0) for mark in marks]]


def is_straight(fact, ahead):
    """True if the fact lies on a chain that shows what is ahead of its x."""
    x, y, number = fact
    return ahead[y] is not None and ahead[x] == number + ahead[y]


def chain_of(marks, facts, bounds, x, y):
    """A chain of these facts, which make the bounds, that shows the greatest x - y there is."""
    goal = spots_of(marks)[y]
    ahead = {name: row[goal] for name, row in zip(names_of(marks), bounds)}
    chains = {x: []}
    # Each name gets one chain, so rings whose numbers add up to 0 lead nowhere.
    while y not in chains:
        for fact in all_facts(marks, facts):
            if fact[0] in chains and fact[1] not in chains and is_straight(fact, ahead):
                chains[fact[1]] = [*chains[fact[0]], fact]
    return chains[y]


def bounds_with(marks, facts, bounds, more):
    """The bounds that these facts make, with more facts; Contradiction if no recording is left."""
    spots = spots_of(marks)
    closer = bounds
    for at, fact in enumerate(more):
        x, y, number = fact
        one, two = spots[x], spots[y]
        if is_barred(closer, one, two, number):
            back = chain_of(marks, (*facts, *more[:at]), closer, y, x)
            raise Contradiction((fact, *back))
        if not is_kept(closer, one, two, number):
            closer = tightened(closer, one, two, number)
    return closer


def tight_facts(marks, bounds):
    """All facts that the bounds show, but those that need no saying."""
    names = names_of(marks)
    facts = []
    for x, row in zip(names, bounds):
        for y, number in zip(names, row):
            if x != y and number is not None and (x != "zero" or number != 0):
                facts.append((x, y, number))
    return facts


def sheet_made(marks, takes, facts, bounds):
    """The sheet of these parts, which are good, and of the bounds that the facts make."""
    made = Sheet((), ())
    made.marks = marks
    made.takes = takes
    made.facts = facts
    made.bounds = bounds
    return made


def sheet_of(marks, takes, bounds):
    """The sheet with these bounds, with no more facts than it needs."""
    names = names_of(marks)
    facts = [(names[x], names[y], number) for x, y, number in needed_limits(bounds)]
    return sheet_made(marks, takes, tuple(facts), bounds)


def sheet_with(sheet, more):
    """The sheet with more facts, which are good, behind its facts."""
    bounds = bounds_with(sheet.marks, sheet.facts, sheet.bounds, more)
    return sheet_made(sheet.marks, sheet.takes, (*sheet.facts, *more), bounds)


def check_alike(first, second):
    """UnlikeMarks if two sheets do not have the same marks and takes."""
    if first.marks != second.marks or first.takes != second.takes:
        raise UnlikeMarks()


def fact_in(line):
    """The fact of a line of a sheet's text, good or bad; None if it does not have this form."""
    words = line.split(" ")
    if len(words) != 5 or words[1] != "-" or words[3] != "<=":
        return None
    return (words[0], words[2], number_of(words[4]))


def read_parts(text):
    """The marks, takes and facts of a sheet's text; BadText for the first line that is bad."""
    *lines, rest = text.split("\n")
    check_lines(lines, 1)
    marks = listed(lines[0], "marks:")
    if marks is None or first_bad_mark(marks) is not None:
        raise BadText(1)
    check_lines(lines, 2)
    takes = listed(lines[1], "takes:")
    if takes is None or first_bad_take(marks, takes) is not None:
        raise BadText(2)
    facts = tuple([fact_in(line) for line in lines[2:]])
    at = first_bad_fact(marks, facts)
    if at is not None:
        raise BadText(at + 3)
    if rest:
        raise BadText(len(lines) + 1)
    return marks, takes, facts


def text_lines(sheet):
    """The lines of a sheet's text."""
    lines = [list_line("marks:", sheet.marks), list_line("takes:", sheet.takes)]
    lines.extend([f"{x} - {y} <= {number}" for x, y, number in sheet.facts])
    return lines


class Sheet:
    """Marks, some of them takes, and facts; its bounds (see bounds) answer what they say."""

    def __init__(self, marks, takes, facts=()):
        self.marks = tuple(marks)
        self.takes = tuple(takes)
        self.facts = tuple(facts)
        self._limits = None
        check_parts(self.marks, self.takes, self.facts)
        self.bounds = bounds_with(self.marks, (), free_bounds(len(self.marks)), self.facts)

    @property
    def limits(self):
        """Limits (see bounds) that make the bounds, none of which follows from the others."""
        if self._limits is None:
            self._limits = needed_limits(self.bounds)
        return self._limits

    def spot(self, name):
        """The place of a name in the bounds."""
        for spot, known in enumerate(names_of(self.marks)):
            if known == name:
                return spot
        raise UnknownName(name)

    def __getitem__(self, at):
        x, y = at
        one = self.spot(x)
        return self.bounds[one][self.spot(y)]

    def __iter__(self):
        raise TypeError("a sheet is not iterated over")

    def chain(self, x, y):
        """Facts from x to y whose numbers add up to sheet[x, y]; None if there is no greatest."""
        if self[x, y] is None:
            return None
        return chain_of(self.marks, self.facts, self.bounds, x, y)

    @property
    def least(self):
        """The recording in which each mark is least."""
        return least_numbers(self.bounds)

    def __contains__(self, numbers):
        return are_numbers(numbers, len(self.marks)) and fits(self.bounds, numbers)

    def with_fact(self, x, y, c):
        """The sheet with this fact behind its facts."""
        if not is_fact((x, y, c), names_of(self.marks)):
            raise BadFact(len(self.facts))
        return sheet_with(self, ((x, y, c),))

    def without(self, index):
        """The sheet without the fact of this index."""
        if not is_whole(index) or not 0 <= index < len(self.facts):
            raise BadFact(index)
        return Sheet(self.marks, self.takes, self.facts[:index] + self.facts[index + 1:])

    def measured(self, mark, number):
        """The sheet with the facts behind it that the mark is this number."""
        if mark not in self.marks:
            raise UnknownName(mark)
        return sheet_with(self, ((mark, "zero", number), ("zero", mark, -number)))

    def __and__(self, other):
        check_alike(self, other)
        more = [fact for fact in other.facts if fact not in self.facts]
        return sheet_with(self, tuple(more)) if more else self

    def tight(self):
        """All facts that the sheet's facts show, but those that need no saying."""
        return tight_facts(self.marks, self.bounds)

    def within(self, other):
        """True if each recording of the sheet is one of the other one."""
        check_alike(self, other)
        return lies_in(self.bounds, other.bounds)

    def __eq__(self, other):
        return (isinstance(other, Sheet) and self.marks == other.marks and self.takes == other.takes
                and self.bounds == other.bounds)

    def __ne__(self, other):
        return not self == other

    def __str__(self):
        return "".join([f"{line}\n" for line in text_lines(self)])

    @staticmethod
    def read(text):
        """The sheet of such a text."""
        marks, takes, facts = read_parts(text)
        return Sheet(marks, takes, facts)
