"""Reading the texts that sheets and programs are written as."""

from unknowntakes.errors import BadText

MOST_DIGITS = 13


def number_of(word):
    """The integer that is written so, None if none is: no sign +, no leading zeros, not too long."""
    digits = word[1:] if word.startswith("-") else word
    if len(digits) > MOST_DIGITS or not digits.isascii() or not digits.isdigit():
        return None
    number = int(word)
    return number if str(number) == word else None


def list_line(head, names):
    """The line that lists names behind its head, like "marks:"."""
    if not names:
        return head
    joined = ", ".join(names)
    return f"{head} {joined}"


def listed(line, head):
    """The names of such a line, good or bad; None if it is no such line."""
    if line == head:
        return ()
    if not line.startswith(f"{head} "):
        return None
    return tuple(line[len(head) + 1:].split(", "))


def check_lines(lines, many):
    """BadText for the line behind the last one if there are not so many lines."""
    if len(lines) < many:
        raise BadText(len(lines) + 1)
