"""What meets on the floor, what goes with what, and what stands on what."""

from latepresses.bodies import body_box, further_on, has_trait, is_fallen
from latepresses.boxes import DIRECTIONS, meet, moved
from latepresses.buckets import buckets_of, put_thing
from latepresses.drafts import Sheet
from latepresses.errors import InvalidPair, InvalidSlot
from latepresses.ground import is_barred, is_held_up
from latepresses.limits import IN_THE_AIR, ON_THE_FLOOR, SLOTS


def meeting(game, looks, box, but):
    """Returns the ascending tuple of the slots, but some, of the things whose boxes meet a box."""
    near = {}
    for cell in buckets_of(game, box):
        for slot in looks.at(cell):
            if slot not in but:
                near[slot] = True
    return tuple([slot for slot in sorted(near) if meet(box, body_box(game, looks.at(slot)))])


def _barring(game, looks, box, but):
    """Returns the list of the slots, but some, of the things that bar and meet a box."""
    return [slot for slot in meeting(game, looks, box, but) if has_trait(game, looks.at(slot), "bars")]


def lot(game, looks, slot, dx, dy):
    """Returns the ascending tuple of the slots that go if a thing is moved one unit, () if nothing goes."""
    _thing_in(looks, slot)
    if (dx, dy) not in DIRECTIONS:
        raise InvalidPair((dx, dy))
    going = [slot]
    place = 0
    while place < len(going):
        joining = _joining(game, looks, going, going[place], dx, dy)
        if joining is None:
            return ()
        going.extend(joining)
        place += 1
    return tuple(sorted(going))


def _joining(game, looks, going, slot, dx, dy):
    """Returns the list of the slots that join a lot for one of it, None if nothing goes."""
    thing = looks.at(slot)
    box = body_box(game, thing)
    if is_barred(game[0], box, dx, dy):
        return None
    if not has_trait(game, thing, "bars"):
        return []
    joining = _barring(game, looks, moved(box, dx, dy), tuple(going))
    for other in joining:
        if not _goes_along(game, looks.at(other), dy):
            return None
    return joining


def _goes_along(game, thing, dy):
    """Returns True if a thing that bars joins a lot that meets it."""
    return has_trait(game, thing, "pushed") or (dy < 0 and has_trait(game, thing, "falls"))


def stands_on(game, looks, slot):
    """Returns the rest of a thing: -1 on the floor, -2 in the air, else the slot of what it stands on."""
    thing = _thing_in(looks, slot)
    if not has_trait(game, thing, "falls") or is_fallen(game, thing):
        return IN_THE_AIR
    box = body_box(game, thing)
    if is_held_up(game[0], box):
        return ON_THE_FLOOR
    if not has_trait(game, thing, "bars"):
        return IN_THE_AIR
    holding = _barring(game, looks, moved(box, 0, 1), (slot,))
    return holding[0] if holding else IN_THE_AIR


def moved_lot(game, world, slots, dx, dy):
    """Returns the world in which the things of some slots are so much further."""
    sheet = Sheet(world)
    for slot in slots:
        _thing_in(sheet, slot)
    for slot in range(SLOTS):
        if slot in slots:
            put_thing(game, sheet, slot, further_on(sheet.at(slot), dx, dy))
    return sheet.told()


def _thing_in(looks, slot):
    """Returns the thing in a slot; raises InvalidSlot if none stands in it."""
    if slot < 0 or slot >= SLOTS:
        raise InvalidSlot(slot)
    thing = looks.at(slot)
    if thing is None:
        raise InvalidSlot(slot)
    return thing
