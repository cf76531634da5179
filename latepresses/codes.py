"""The forms of the things of code, and the ways through it."""

from latepresses.forms import RANGES, is_form_of_expression
from latepresses.plain import is_between, is_whole
from latepresses.readings import MOST, TWO_SIDED

# What stands behind the name of a thing of code, by the names of RANGES and those of _is_part.
FORMS = {
    "push": ("pushed",),
    "read": ("reading",),
    "do": ("joining",),
    "own": ("own",),
    "mark": ("mark",),
    "go": (),
    "born": ("kind",),
    "gone": (),
    "over": ("many",),
    "nought": ("many",),
}
TAKEN = {"push": 0, "read": 0, "own": 1, "mark": 1, "go": 2, "born": 4, "gone": 0, "over": 0, "nought": 1}
GIVEN = ("push", "read", "do")


def is_code(told):
    """Returns True if a tuple is code that a script can have, shortened or not, by its forms and ways alone."""
    for place, thing in enumerate(told):
        if not _has_form(thing) or max(places_behind(told, place)) > len(told):
            return False
    return _has_fitting_rows(told)


def _has_form(told):
    """Returns True if this is a thing of code by its form."""
    if not isinstance(told, tuple) or not told or not isinstance(told[0], str):
        return False
    form = FORMS.get(told[0])
    if form is None or len(form) != len(told) - 1:
        return False
    return all([_is_part(wanted, part) for wanted, part in zip(form, told[1:])])


def _is_part(wanted, part):
    """Returns True if a part of a thing is what is wanted there."""
    if wanted == "pushed":
        return is_between(part, -MOST, MOST)
    if wanted == "reading":
        return _is_reading(part)
    if wanted == "joining":
        return part == "not" or part in TWO_SIDED
    if wanted == "many":
        return is_whole(part) and part >= 0
    low, high = RANGES[wanted]
    return is_between(part, low, high)


def _is_reading(told):
    """Returns True if this is an expression of one tuple, but no number."""
    if not is_form_of_expression(told) or told[0] == "number":
        return False
    return not any([isinstance(part, tuple) for part in told])


def is_leap(thing):
    """Returns True if a thing can leave others out."""
    return thing[0] == "over" or thing[0] == "nought"


def led_to(code, place):
    """Returns the place to which a leap leads."""
    return place + 1 + code[place][1]


def places_behind(code, place):
    """Returns the tuple of the places to which a way leads from a thing."""
    if code[place][0] == "over":
        return (led_to(code, place),)
    if code[place][0] == "nought":
        return (place + 1, led_to(code, place))
    return (place + 1,)


def taken_by(thing):
    """Returns how many numbers a thing takes from the end of the row."""
    if thing[0] == "do":
        return 1 if thing[1] == "not" else 2
    return TAKEN[thing[0]]


def _has_fitting_rows(code):
    """Returns True if there are numbers enough on every way, and as many on all ways to one place."""
    heights = {0: 0}
    for place, thing in enumerate(code):
        if place not in heights:
            # No way leads here.
            continue
        height = heights[place] - taken_by(thing)
        if height < 0:
            return False
        if thing[0] in GIVEN:
            height += 1
        for target in places_behind(code, place):
            if heights.setdefault(target, height) != height:
                return False
    return True
