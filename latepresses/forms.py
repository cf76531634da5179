"""The forms that expressions and deeds of scripts have, and what stands in them."""

from latepresses.plain import is_between

SIGNS = ".#=<>^wg"
MOST_TUPLES = 60
MOST_DEEP = 8

# What stands behind a name: "part" is an expression, "deeds" a tuple of deeds, "sign" a sign of the floor,
# and the others are numbers from .. to.
RANGES = {
    "number": (-9999, 9999),
    "own": (0, 3),
    "mark": (0, 15),
    "kind": (0, 7),
    "key": (0, 5),
    "draw": (1, 99),
}

EXPRESSION_FORMS = {
    "number": ("number",),
    "own": ("own",),
    "mark": ("mark",),
    "x": (),
    "y": (),
    "dx": (),
    "dy": (),
    "rests": (),
    "held": ("key",),
    "met": ("kind",),
    "met own": ("kind", "own"),
    "here": ("sign",),
    "under": ("sign",),
    "drawn": ("draw",),
    "sum": ("part", "part"),
    "less": ("part", "part"),
    "times": ("part", "part"),
    "part": ("part", "part"),
    "rest": ("part", "part"),
    "least": ("part", "part"),
    "most": ("part", "part"),
    "same": ("part", "part"),
    "below": ("part", "part"),
    "both": ("part", "part"),
    "either": ("part", "part"),
    "not": ("part",),
    "pick": ("part", "part", "part"),
}

DEED_FORMS = {
    "own": ("own", "part"),
    "mark": ("mark", "part"),
    "go": ("part", "part"),
    "born": ("kind", "part", "part", "part", "part"),
    "gone": (),
    "when": ("part", "deeds", "deeds"),
}


def is_form_of_expression(told):
    """Returns True if a tuple is an expression."""
    waiting = [told]
    while waiting:
        parts = _parts(waiting.pop(), False)
        if parts is None:
            return False
        waiting.extend([part for part, _ in parts])
    return True


def measured(script):
    """Returns (size, depth) of a script, None if it is none, be it by its size or depth."""
    if not isinstance(script, tuple):
        return None
    waiting = [(deed, True, 1) for deed in script]
    size = 0
    depth = 0
    while waiting:
        told, is_deed, deep = waiting.pop()
        parts = _parts(told, is_deed)
        size += 1
        if parts is None or size > MOST_TUPLES or deep > MOST_DEEP:
            return None
        depth = max(depth, deep)
        waiting.extend([(part, part_is_deed, deep + 1) for part, part_is_deed in parts])
    return (size, depth)


def _parts(told, is_deed):
    """Returns the list of the (tuple, whether it is a deed) right within one, None if its form is wrong."""
    if not isinstance(told, tuple) or not told or not isinstance(told[0], str):
        return None
    form = DEED_FORMS.get(told[0]) if is_deed else EXPRESSION_FORMS.get(told[0])
    if form is None or len(form) != len(told) - 1:
        return None
    parts = []
    for wanted, part in zip(form, told[1:]):
        if wanted == "part":
            parts.append((part, False))
        elif wanted == "deeds":
            if not isinstance(part, tuple):
                return None
            parts.extend([(deed, True) for deed in part])
        elif not _is_single(wanted, part):
            return None
    return parts


def _is_single(wanted, part):
    """Returns True if a part is the sign, or a number of the range, that is wanted."""
    if wanted == "sign":
        return is_sign(part)
    low, high = RANGES[wanted]
    return is_between(part, low, high)


def is_sign(told):
    """Returns True if it is one of the signs of floors."""
    return isinstance(told, str) and len(told) == 1 and told in SIGNS


def within(script):
    """Returns the list of all expressions and deeds of a right script."""
    waiting = list(script)
    found = []
    while waiting:
        told = waiting.pop()
        found.append(told)
        if told[0] == "when":
            waiting.append(told[1])
            waiting.extend(told[2])
            waiting.extend(told[3])
        else:
            waiting.extend([part for part in told if isinstance(part, tuple)])
    return found


def wanted_by(script):
    """Returns (marks, seed, met): what a right script reads or sets."""
    marks = {}
    seed = False
    met = False
    for told in within(script):
        name = told[0]
        if name == "mark":
            marks[told[1]] = True
        elif name == "drawn":
            seed = True
        elif name == "met" or name == "met own":
            met = True
    return (tuple(sorted(marks)), seed, met)


def kinds_in(script):
    """Returns the list of the indexes of kinds that stand in a right script."""
    return [told[1] for told in within(script) if told[0] in ("met", "met own", "born")]
