"""What starts of games and cells of worlds have to be, beside those ahead of them."""

from latepresses.bodies import body_box, has_trait, is_body, is_fallen
from latepresses.boxes import meet
from latepresses.buckets import buckets_of
from latepresses.ground import block_counts, is_below, is_clear
from latepresses.limits import BUCKET, SLOTS
from latepresses.plain import ascends, is_between, is_row


def starts_stand_right(level, kinds):
    """Returns True if the starts are of these kinds, free, on the floor, and do not bar one another."""
    barring = []
    for index, _, x, y in level[1]:
        if not is_between(index, 0, len(kinds) - 1):
            return False
        kind = kinds[index]
        box = (x, y, kind[1], kind[2])
        if not is_clear(level, box) or is_below(level, box):
            return False
        if "bars" in kind[3]:
            if any([meet(box, other) for other in barring]):
                return False
            barring.append(box)
    return True


def stands_right(game, told, slot):
    """Returns True if a slot has a thing that is free, on the floor, and not within one ahead of it."""
    thing = told[slot]
    if not is_body(game, thing) or is_fallen(game, thing):
        return False
    box = body_box(game, thing)
    if not is_clear(game[0], box):
        return False
    if not has_trait(game, thing, "bars"):
        return True
    for other in told[:slot]:
        if other is not None and has_trait(game, other, "bars") and meet(box, body_box(game, other)):
            return False
    return True


def are_met(thing, slot, value):
    """Returns True if these are slots that the thing of a slot can have met."""
    if not is_row(value, 0, SLOTS - 1):
        return False
    if thing is None:
        return value == ()
    return slot not in value and ascends(value)


def right_buckets(game, told):
    """Returns the list of the buckets that the slots want."""
    rows, columns = block_counts(game[0])
    buckets = [[] for _ in range(rows * columns)]
    for slot, thing in enumerate(told[:SLOTS]):
        if thing is not None:
            for cell in buckets_of(game, body_box(game, thing)):
                buckets[cell - BUCKET].append(slot)
    return [tuple(bucket) for bucket in buckets]
