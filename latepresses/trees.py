"""Code that is made a script again."""

from latepresses.codes import taken_by


class Growth:
    """The deeds that were found in a stretch of code, and the expressions that wait in the row behind it."""

    def __init__(self):
        self.deeds = []
        self.row = []

    def taken(self, many):
        """Returns the list of the last expressions of the row, and takes them out; None if there are too few."""
        if many > len(self.row):
            return None
        at = len(self.row) - many
        found = self.row[at:]
        self.row = self.row[:at]
        return found

    def add_deed(self, deed):
        """Adds a deed; returns False if expressions are left over ahead of it."""
        self.deeds.append(deed)
        return self.row == []


def grown_script(code):
    """Returns the script that a reading of right code gives, None if it gives none."""
    growth = _grown(code, 0, len(code))
    if growth is None or growth.row != []:
        return None
    return tuple(growth.deeds)


def _grown(code, begin, end):
    """Returns the growth of a stretch of code, None if there is none."""
    growth = Growth()
    place = begin
    while place is not None and place < end:
        if code[place][0] == "nought":
            place = _grow_fork(code, place, end, growth)
        elif _grow_thing(code[place], growth):
            place += 1
        else:
            place = None
    return None if place is None else growth


def _grow_thing(thing, growth):
    """Puts a thing that is no leap into a growth; returns False if it does not fit."""
    name = thing[0]
    if name == "over":
        return False
    if name == "push":
        growth.row.append(("number", thing[1]))
        return True
    if name == "read":
        growth.row.append(thing[1])
        return True
    parts = growth.taken(taken_by(thing))
    if parts is None:
        return False
    if name == "do":
        growth.row.append((thing[1], *parts))
        return True
    return growth.add_deed((*thing, *parts))


def _grow_fork(code, place, end, growth):
    """Puts a "pick" or a "when" into a growth, and returns the place behind it, None if there is none."""
    asked = growth.taken(1)
    middle = place + code[place][1]
    if asked is None or middle == place or middle >= end or code[middle][0] != "over":
        return None
    behind = middle + 1 + code[middle][1]
    if behind > end:
        return None
    one = _grown(code, place + 1, middle)
    other = _grown(code, middle + 1, behind)
    if one is None or other is None or len(one.row) != len(other.row) or len(one.row) > 1:
        return None
    if one.row == []:
        fits = growth.add_deed(("when", asked[0], tuple(one.deeds), tuple(other.deeds)))
        return behind if fits else None
    growth.row.append(("pick", asked[0], one.row[0], other.row[0]))
    return behind if one.deeds == [] and other.deeds == [] else None
