"""What stands in one line of a text: integers, presses of ticks, letters and deeds."""

from latepresses.checks import is_press
from latepresses.forms import DEED_FORMS, EXPRESSION_FORMS, MOST_DEEP, measured
from latepresses.letters import is_letter
from latepresses.plain import is_between
from latepresses.texts import show_deed

DIGITS = "0123456789"
MOST_DIGITS = 9
MOST_HOUSES = 4
# What stands between the parts of a deed.
BETWEEN = ("=", "at", "by")


def integer_in(text, most):
    """Returns the integer that a text shows with at most so many digits, None if it shows none."""
    digits = text[1:] if text.startswith("-") else text
    if not is_between(len(digits), 1, most) or not all([sign in DIGITS for sign in digits]):
        return None
    if digits[0] == "0" and text != "0":
        return None
    return int(text)


def integers_in(words):
    """Returns the tuple of the integers that words show, None if one shows none."""
    numbers = tuple([integer_in(word, MOST_DIGITS) for word in words])
    return None if None in numbers else numbers


def rows_in(text, may_be_untold):
    """Returns the presses of ticks that a text shows, None if it shows none; "?" may stand for untold presses."""
    if text == "-":
        return ()
    rows = []
    for word in text.split(" "):
        signs = word.split(",")
        presses = tuple([_press_in(sign) for sign in signs])
        for sign, press in zip(signs, presses):
            if press is None and not (may_be_untold and sign == "?"):
                return None
        rows.append(presses)
    if len(rows[0]) > MOST_HOUSES or any([len(presses) != len(rows[0]) for presses in rows]):
        return None
    return tuple(rows)


def _press_in(text):
    """Returns the press that a text shows, None if it shows none."""
    number = integer_in(text, MOST_DIGITS)
    return number if is_press(number) else None


def letter_in(text):
    """Returns the letter that a text shows, None if it shows none."""
    words = text.split(" ")
    if len(words) != 5:
        return None
    house = integer_in(words[0], MOST_DIGITS)
    first = integer_in(words[1], MOST_DIGITS)
    ends = integer_in(words[2], MOST_DIGITS)
    row = () if words[3] == "-" else integers_in(words[3].split(","))
    heard = integers_in(words[4].split(","))
    told = (house, first, row, ends, heard)
    if not is_letter(told) or len(heard) > MOST_HOUSES or (ends is None and words[2] != "-"):
        return None
    return told


def deed_in(line):
    """Returns the deed that a line shows, a "when" without deeds; None if it shows none."""
    words = _words_in(line)
    if words is None or not isinstance(words[0], str):
        return None
    name = words[0]
    form = ("part",) if name == "when" else DEED_FORMS.get(name)
    parts = _parts_in([word for word in words[1:] if word not in BETWEEN], form)
    if parts is None:
        return None
    deed = (name, *parts, (), ()) if name == "when" else (name, *parts)
    # What was read too freely, as of other blanks, is shown otherwise.
    return deed if measured((deed,)) is not None and show_deed(deed) == line else None


def _words_in(line):
    """Returns the list of the words and expressions of a line, None if its brackets or expressions are wrong."""
    stack = [[]]
    for word in line.replace("(", "( ").replace(")", " )").split(" "):
        if word == "(":
            if len(stack) > MOST_DEEP:
                return None
            stack.append([])
        elif word == ")":
            expression = _expression_of(stack.pop())
            if expression is None or stack == []:
                return None
            stack[-1].append(expression)
        else:
            stack[-1].append(word)
    return stack[0] if len(stack) == 1 else None


def _expression_of(words):
    """Returns the expression of the words and expressions between two brackets, None if they make none."""
    if not isinstance(words[0], str):
        return None
    name = words[0]
    behind = words[1:]
    if name == "met" and behind != [] and behind[0] == "own":
        name = "met own"
        behind = words[2:]
    parts = _parts_in(behind, EXPRESSION_FORMS.get(name))
    return None if parts is None else (name, *parts)


def _parts_in(words, form):
    """Returns the tuple of the parts of a form that words show, None if they do not fit; ranges are not looked at."""
    if form is None or len(form) != len(words):
        return None
    parts = tuple([_part_in(word, wanted) for word, wanted in zip(words, form)])
    return None if None in parts else parts


def _part_in(word, wanted):
    """Returns the part that a word shows, or that is an expression already; None if it does not fit."""
    if not isinstance(word, str):
        return word
    if wanted == "sign":
        return word
    number = integer_in(word, MOST_DIGITS)
    return ("number", number) if wanted == "part" and number is not None else number
