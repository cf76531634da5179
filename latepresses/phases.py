"""The five phases of a tick, deed by deed, for right games and worlds."""

from latepresses.bodies import body_box, further_on, has_trait, is_fallen, new_body, sign_here, sign_under
from latepresses.bodies import with_own, with_rest, with_way
from latepresses.boxes import grown
from latepresses.buckets import put_thing
from latepresses.drafts import Draft
from latepresses.floor import lot, meeting, stands_on
from latepresses.forms import wanted_by
from latepresses.ground import is_below, is_clear, is_on_spikes
from latepresses.limits import IN_THE_AIR, MARK, MARKS, MET, MOST_WAY, ON_THE_FLOOR, SEED, SLOTS
from latepresses.plain import kept
from latepresses.readings import ran

SCRIPTS = 0
ACROSS = 1
DOWN = 2
MEETINGS = 3
PHASES = 5
MOST_IN_WATER = 2


def house_heard(deed, thing):
    """Returns the house whose press a deed hears, -1 if it hears none."""
    if deed[0] != SCRIPTS or thing is None:
        return -1
    return thing[1]


def writes_of(game, presses, deed, looks):
    """Returns the ascending tuple of (cell, value) that a deed writes."""
    draft = Draft(looks)
    phase, slot = deed
    thing = draft.at(slot)
    if thing is None:
        return ()
    if phase == SCRIPTS:
        house = house_heard(deed, thing)
        _run_rules(game, draft, slot, presses[house] if house >= 0 else 0)
    elif phase == ACROSS:
        _go_across(game, draft, slot)
    elif phase == DOWN:
        _go_down(game, draft, slot)
    elif phase == MEETINGS:
        box = grown(body_box(game, thing), 1)
        draft.put(MET + slot, meeting(game, draft, box, (slot,)))
    elif is_fallen(game, thing) or _is_stung(game, thing):
        put_thing(game, draft, slot, None)
    return draft.writes()


def _is_stung(game, thing):
    """Returns True if a thing is frail and has a unit in spikes."""
    return has_trait(game, thing, "frail") and is_on_spikes(game[0], body_box(game, thing))


def _run_rules(game, draft, slot, press):
    """Does what the rules of a thing tell."""
    thing = draft.at(slot)
    rules = game[1][thing[0]][5]
    dx, dy, own, marks, seed, births, gone = ran(rules, _reads(game, draft, slot, press, wanted_by(rules)))
    draft.put(slot, with_own(with_way(thing, dx, dy), own))
    for mark, number in marks:
        draft.put(MARK + mark, number)
    if seed is not None:
        draft.put(SEED, seed)
    for birth in births:
        _bear(game, draft, thing, birth)
    if gone:
        put_thing(game, draft, slot, None)


def _reads(game, draft, slot, press, wanted):
    """Returns what the rules of a thing read."""
    thing = draft.at(slot)
    wanted_marks, wants_seed, wants_met = wanted
    marks = tuple([draft.at(MARK + mark) if mark in wanted_marks else None for mark in range(MARKS)])
    seed = draft.at(SEED) if wants_seed else None
    met = _met_things(draft, slot) if wants_met else ()
    return (thing, press, marks, seed, met, sign_here(game, thing), sign_under(game, thing))


def _met_things(draft, slot):
    """Returns the tuple of (slot, kind, house, own) of the things that one met and that stand still."""
    met = [(other, draft.at(other)) for other in draft.at(MET + slot)]
    return tuple([(other, thing[0], thing[1], thing[7]) for other, thing in met if thing is not None])


def _bear(game, draft, maker, birth):
    """Puts a thing that is told to be born into the least free slot, if there is one and it has room."""
    kind, across, down, dx, dy = birth
    slot = _free_slot(draft)
    if slot is None:
        return
    thing = new_body(game, kind, maker[1], maker[2] + across, maker[3] + down, dx, dy)
    box = body_box(game, thing)
    if not is_clear(game[0], box) or is_below(game[0], box):
        return
    if has_trait(game, thing, "bars"):
        for other in meeting(game, draft, box, ()):
            if has_trait(game, draft.at(other), "bars"):
                return
    put_thing(game, draft, slot, thing)


def _free_slot(draft):
    """Returns the least free slot, None if there is none."""
    for slot in range(SLOTS):
        if draft.at(slot) is None:
            return slot
    return None


def _go_across(game, draft, slot):
    """Moves a thing across, by its way and the belt below it."""
    thing = draft.at(slot)
    if not _goes(game, draft, slot, thing[4] + _belt(game, thing), 0):
        thing = draft.at(slot)
        draft.put(slot, with_way(thing, 0, thing[5]))


def _belt(game, thing):
    """Returns how far the belt takes a thing that rests on it."""
    if thing[6] != ON_THE_FLOOR:
        return 0
    sign = sign_under(game, thing)
    if sign == "<":
        return -1
    return 1 if sign == ">" else 0


def _go_down(game, draft, slot):
    """Lets a thing fall or rise, and tells what it rests on then."""
    thing = draft.at(slot)
    if is_fallen(game, thing):
        return
    dx, dy = _way_down(game, thing)
    draft.put(slot, with_way(thing, dx, dy))
    if not _goes(game, draft, slot, 0, dy):
        draft.put(slot, with_way(draft.at(slot), dx, 0))
    rest = stands_on(game, draft, slot)
    draft.put(slot, with_rest(draft.at(slot), rest))


def _way_down(game, thing):
    """Returns (dx, dy) of a thing by the pull and the water."""
    dx, dy = thing[4:6]
    if has_trait(game, thing, "falls") and thing[6] == IN_THE_AIR:
        dy = min(MOST_WAY, dy + game[0][3])
    if sign_here(game, thing) == "w":
        return (kept(dx, -MOST_IN_WATER, MOST_IN_WATER), kept(dy, -MOST_IN_WATER, MOST_IN_WATER))
    return (dx, dy)


def _goes(game, draft, slot, dx, dy):
    """Moves a thing one unit after the other, across or down; returns False if it does not go on."""
    for _ in range(abs(dx + dy)):
        if not _goes_one(game, draft, slot, kept(dx, -1, 1), kept(dy, -1, 1)):
            return False
    return True


def _goes_one(game, draft, slot, dx, dy):
    """Moves a thing one unit with what goes along and what it carries; returns False if it does not go."""
    x, y, wide, _ = body_box(game, draft.at(slot))
    going = _move_lot(game, draft, slot, dx, dy)
    if going == ():
        return False
    if dy >= 0 and has_trait(game, draft.at(slot), "carries"):
        above = meeting(game, draft, (x, y - 1, wide, 1), (slot,))
        carried = [other for other in above if other not in going and draft.at(other)[6] == slot]
        for other in carried:
            _move_lot(game, draft, other, dx, dy)
    return True


def _move_lot(game, draft, slot, dx, dy):
    """Moves a thing one unit with its lot, and returns the lot."""
    going = lot(game, draft, slot, dx, dy)
    for other in going:
        put_thing(game, draft, other, further_on(draft.at(other), dx, dy))
    return going
