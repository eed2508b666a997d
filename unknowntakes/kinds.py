"""What counts as an integer, a name, a place, and a row of numbers."""


def is_whole(x):
    """An integer is an int other than True and False."""
    return isinstance(x, int) and not isinstance(x, bool)


def is_name(x):
    """A name is a string of 1 to 8 of the letters a to z and A to Z."""
    return isinstance(x, str) and len(x) <= 8 and x.isascii() and x.isalpha()


def is_place(x):
    """A place is a tuple of a name, a mark's or "zero", and an integer."""
    return isinstance(x, tuple) and len(x) == 2 and is_name(x[0]) and is_whole(x[1])


def are_numbers(x, many):
    """A tuple of so many integers."""
    return isinstance(x, tuple) and len(x) == many and all([is_whole(number) for number in x])


def first_bad_name(names):
    """The index of the first that is no name or there before; None if all are good."""
    for at, name in enumerate(names):
        if not is_name(name) or name in names[:at]:
            return at
    return None
