"""What right expressions give and what right deeds of scripts do, by what a thing reads."""

from latepresses.limits import IN_THE_AIR, MOST_SET, MOST_WAY
from latepresses.plain import kept

MOST = 999999
MOST_AWAY = 64
MOST_BIRTHS = 2
TWO_SIDED = ("sum", "less", "times", "part", "rest", "least", "most", "same", "below", "both", "either")


class Reading:
    """What a thing reads in one run, as its deeds have changed it so far."""

    def __init__(self, reads):
        thing, press, marks, seed, met, here, below = reads
        self.thing = thing
        self.dx = thing[4]
        self.dy = thing[5]
        self.own = list(thing[7])
        self.press = press
        self.marks = list(marks)
        self.seed = seed
        self.met = met
        self.here = here
        self.below = below
        self.marks_set = {}
        self.drawn = False
        self.births = []
        self.gone = False


def next_seed(seed):
    """Returns the seed behind a seed."""
    return (75 * seed + 74) % 65537


def number_in(expression, reading):
    """Returns the number of an expression; draws change the reading."""
    name = expression[0]
    if name == "pick":
        chosen = 2 if number_in(expression[1], reading) != 0 else 3
        return number_in(expression[chosen], reading)
    if name == "not" or name in TWO_SIDED:
        return number_made(name, [number_in(part, reading) for part in expression[1:]])
    return kept(read_number(expression, reading), -MOST, MOST)


def number_made(name, sides):
    """Returns the number that two sides make, or one for "not"."""
    one = sides[0]
    if name == "not":
        return 0 if one != 0 else 1
    other = sides[1]
    if name == "both":
        return 1 if one != 0 and other != 0 else 0
    if name == "either":
        return 1 if one != 0 or other != 0 else 0
    if name == "same":
        return 1 if one == other else 0
    if name == "below":
        return 1 if one < other else 0
    return kept(_reckoned(name, one, other), -MOST, MOST)


def _reckoned(name, one, other):
    """Returns what comes of two numbers, not kept within bounds."""
    if name == "sum":
        return one + other
    if name == "less":
        return one - other
    if name == "times":
        return one * other
    if name == "least":
        return min(one, other)
    if name == "most":
        return max(one, other)
    if other == 0:
        return 0
    return one // other if name == "part" else one % other


def read_number(expression, reading):
    """Returns the number of an expression of one tuple, not kept within bounds."""
    name = expression[0]
    if name == "number":
        return expression[1]
    if name == "own":
        return reading.own[expression[1]]
    if name == "mark":
        return reading.marks[expression[1]]
    if name == "held":
        return (reading.press >> expression[1]) & 1
    if name == "here":
        return 1 if reading.here == expression[1] else 0
    if name == "under":
        return 1 if reading.below == expression[1] else 0
    if name == "drawn":
        return _drawn(expression[1], reading)
    if name == "met":
        return len([told for told in reading.met if told[1] == expression[1]])
    if name == "met own":
        return _own_of_first_met(expression[1], expression[2], reading)
    return _number_of_thing(name, reading)


def _number_of_thing(name, reading):
    """Returns where a thing is, how far it is to go, or whether it rests."""
    if name == "x":
        return reading.thing[2]
    if name == "y":
        return reading.thing[3]
    if name == "dx":
        return reading.dx
    if name == "dy":
        return reading.dy
    return 0 if reading.thing[6] == IN_THE_AIR else 1


def _drawn(many, reading):
    """Draws a new seed and returns its rest."""
    reading.seed = next_seed(reading.seed)
    reading.drawn = True
    return reading.seed % many


def _own_of_first_met(kind, at, reading):
    """Returns an own number of the first met thing of a kind, 0 if there is none."""
    for told in reading.met:
        if told[1] == kind:
            return told[3][at]
    return 0


def do_deeds(deeds, reading):
    """Does deeds one behind the other."""
    for deed in deeds:
        if deed[0] == "when":
            chosen = 2 if number_in(deed[1], reading) != 0 else 3
            do_deeds(deed[chosen], reading)
        else:
            numbers = [number_in(part, reading) for part in deed if isinstance(part, tuple)]
            do_deed(deed, numbers, reading)


def do_deed(deed, numbers, reading):
    """Does one deed, other than a "when", with the numbers of its expressions."""
    name = deed[0]
    if name == "own":
        reading.own[deed[1]] = kept(numbers[0], -MOST_SET, MOST_SET)
    elif name == "mark":
        reading.marks[deed[1]] = kept(numbers[0], -MOST_SET, MOST_SET)
        reading.marks_set[deed[1]] = reading.marks[deed[1]]
    elif name == "go":
        reading.dx = kept(numbers[0], -MOST_WAY, MOST_WAY)
        reading.dy = kept(numbers[1], -MOST_WAY, MOST_WAY)
    elif name == "gone":
        reading.gone = True
    elif len(reading.births) < MOST_BIRTHS:
        away = [kept(number, -MOST_AWAY, MOST_AWAY) for number in numbers[:2]]
        way = [kept(number, -MOST_WAY, MOST_WAY) for number in numbers[2:]]
        reading.births.append((deed[1], *away, *way))


def told_by(reading):
    """Returns (dx, dy, own, marks, seed, births, gone): what a run has told."""
    marks = tuple([(mark, reading.marks_set[mark]) for mark in sorted(reading.marks_set)])
    seed = reading.seed if reading.drawn else None
    births = tuple(reading.births)
    return (reading.dx, reading.dy, tuple(reading.own), marks, seed, births, reading.gone)


def ran(script, reads):
    """Returns what a run of a right script tells."""
    reading = Reading(reads)
    do_deeds(script, reading)
    return told_by(reading)
