"""What counts as an integer, a name, and a row of numbers."""


def is_whole(x):
    """An integer is an int other than True and False."""
    return isinstance(x, int) and not isinstance(x, bool)


def is_name(x):
    """A name is a string of 1 to 8 of the letters a to z and A to Z."""
    return isinstance(x, str) and len(x) <= 8 and x.isascii() and x.isalpha()


def are_numbers(x, many):
    """A tuple of so many integers."""
    return isinstance(x, tuple) and len(x) == many and all([is_whole(number) for number in x])
