"""Small questions about numbers, names, and rows of numbers."""

LETTERS = "abcdefghijklmnopqrstuvwxyz"
MOST_LETTERS = 8


def is_whole(told):
    """Returns True if it is an integer, and no bool."""
    return isinstance(told, int) and not isinstance(told, bool)


def is_between(told, low, high):
    """Returns True if it is an integer from low to high."""
    return is_whole(told) and low <= told <= high


def is_row(told, low, high):
    """Returns True if it is a tuple of integers from low to high."""
    return isinstance(told, tuple) and all([is_between(number, low, high) for number in told])


def is_name(told):
    """Returns True if it is a name: a text of one to eight letters."""
    if not isinstance(told, str) or not 1 <= len(told) <= MOST_LETTERS:
        return False
    return all([letter in LETTERS for letter in told])


def ascends(row):
    """Returns True if each part of a row is above the one ahead of it."""
    return all([one < other for one, other in zip(row, row[1:])])


def kept(number, low, high):
    """Returns the number from low to high that is nearest."""
    return max(low, min(high, number))


def with_part(row, at, part):
    """Returns a tuple with another part at a place."""
    return row[:at] + (part,) + row[at + 1:]
