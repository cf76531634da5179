"""Code that does the same by fewer things."""

from latepresses.codes import is_leap, led_to, taken_by
from latepresses.readings import number_made


def shortened_once(code):
    """Returns right code in which the first thing that can be made shorter is so, None if there is none."""
    leads = _leads(code)
    for place in range(len(code)):
        change = _change_at(code, place, leads)
        if change is not None:
            put, many = change
            return _with_change(code, place, put, many)
    return None


def _leads(code):
    """Returns a dict of the lists of the leaps that lead to a place."""
    leads = {}
    for place, thing in enumerate(code):
        if is_leap(thing):
            leads.setdefault(led_to(code, place), []).append(place)
    return leads


def _change_at(code, place, leads):
    """Returns (put, many): what comes in the place of so many things from a place on; None if nothing does."""
    if code[place][0] == "over":
        return _change_of_stretch(leads, place, 1, 1 + code[place][1])
    if code[place][0] != "push":
        return None
    things = code[place:place + 3]
    if len(things) > 1 and things[1][0] == "nought":
        if place + 1 in leads:
            return None
        return _change_of_stretch(leads, place, 2, 2 if things[0][1] != 0 else 2 + things[1][1])
    return _change_of_do(things, place, leads)


def _change_of_stretch(leads, place, ahead, many):
    """Returns the change by which so many things go out, None if one behind those ahead is led to by one that stays."""
    for target in range(place + ahead, place + many):
        for leap in leads.get(target, []):
            if leap < place or leap >= place + many:
                return None
    return ((), many)


def _change_of_do(things, place, leads):
    """Returns the change of pushes with a "do" behind them, None if there is none that takes just these."""
    for many in (1, 2):
        done = things[many:many + 1]
        pushed = [thing[1] for thing in things[:many] if thing[0] == "push"]
        if done and done[0][0] == "do" and taken_by(done[0]) == many and len(pushed) == many:
            if any([place + at in leads for at in range(1, many + 1)]):
                return None
            return ((("push", number_made(done[0][1], pushed)),), many + 1)
    return None


def _with_change(code, place, put, many):
    """Returns code with something else in the place of so many things, and the lengths told anew."""
    newer = []
    for at, thing in enumerate(code):
        if at < place or at >= place + many:
            if is_leap(thing):
                target = _place_anew(led_to(code, at), place, put, many)
                thing = (thing[0], target - _place_anew(at, place, put, many) - 1)
            newer.append(thing)
        elif at == place:
            newer.extend(put)
    return tuple(newer)


def _place_anew(at, place, put, many):
    """Returns where a place is behind a change; of a thing that went out, where that is what is then in its place."""
    if at >= place + many:
        return at - many + len(put)
    return min(at, place + len(put))
