"""The buckets of blocks, and things that come into a world or leave it."""

from latepresses.bodies import body_box
from latepresses.ground import BLOCK, block_counts, extent
from latepresses.limits import BUCKET, MET


def buckets_of(game, box):
    """Returns the ascending tuple of the cells of buckets in which a box has a unit."""
    level = game[0]
    floor_wide, floor_high = extent(level)
    x, y, wide, high = box
    left = max(0, x)
    right = min(floor_wide, x + wide)
    top = max(0, y)
    bottom = min(floor_high, y + high)
    if left >= right or top >= bottom:
        return ()
    many = block_counts(level)[1]
    rows = range(top // BLOCK, (bottom - 1) // BLOCK + 1)
    columns = range(left // BLOCK, (right - 1) // BLOCK + 1)
    return tuple([BUCKET + row * many + column for row in rows for column in columns])


def put_thing(game, desk, slot, thing):
    """Puts a thing, or None, into a slot of a draft or a sheet, and into the buckets that it has."""
    elder = desk.at(slot)
    left = () if elder is None else buckets_of(game, body_box(game, elder))
    entered = () if thing is None else buckets_of(game, body_box(game, thing))
    desk.put(slot, thing)
    for cell in left:
        if cell not in entered:
            desk.put(cell, tuple([other for other in desk.at(cell) if other != slot]))
    for cell in entered:
        if cell not in left:
            desk.put(cell, tuple(sorted(desk.at(cell) + (slot,))))
    if thing is None:
        desk.put(MET + slot, ())
