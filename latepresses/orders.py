"""What the words of an order have to be."""

from latepresses.checks import is_press
from latepresses.phrases import MOST_DIGITS, integer_in
from latepresses.plain import is_name

# What stands behind the first word of each order of one line.
FORMS = {
    "play": ("name", "name", "number", "number", "number", "number", "number"),
    "go": ("name", "number", "press"),
    "send": ("name", "number"),
    "bring": ("name", "number"),
    "lose": ("name", "number"),
    "double": ("name", "number"),
    "fall": ("name", "number"),
    "leave": ("name", "number"),
    "replay": ("name", "name"),
    "press": ("name", "number", "number", "number"),
    "cut": ("name", "number", "number"),
    "drop": ("name",),
    "undo": (),
    "sure": ("name",),
    "house": ("name", "number"),
    "seek": ("name", "number"),
    "parted": ("name", "name"),
    "judge": ("name", "number"),
    "names": (),
}


def order_in(text):
    """Returns (first word, tuple of names and numbers) of an order of one line, None if it is none."""
    words = text.split(" ")
    form = FORMS.get(words[0])
    if form is None or len(form) != len(words) - 1:
        return None
    parts = tuple([_part_in(word, wanted) for word, wanted in zip(words[1:], form)])
    return None if None in parts else (words[0], parts)


def _part_in(word, wanted):
    """Returns the name or number that a word shows, None if it shows none that is wanted."""
    if wanted == "name":
        return word if is_name(word) else None
    number = integer_in(word, MOST_DIGITS)
    return None if wanted == "press" and not is_press(number) else number
