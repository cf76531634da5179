"""Worlds: rows of cells, and looks at them."""

from latepresses.bodies import is_body, new_body, with_rest
from latepresses.buckets import buckets_of, put_thing
from latepresses.drafts import Sheet
from latepresses.errors import InvalidCell, InvalidNumber, InvalidPair, InvalidSlot, InvalidThing
from latepresses.floor import stands_on
from latepresses.ground import block_counts
from latepresses.levels import need_game
from latepresses.limits import BUCKET, MARK, MARKS, MET, MOST_SEED, MOST_SET, SEED, SLOTS
from latepresses.plain import is_between
from latepresses.rightness import are_met, right_buckets, stands_right


def cells_of(game):
    """Returns how many cells a world has."""
    need_game(game)
    return _count(game)


def _count(game):
    """Returns how many cells a world of a right game has."""
    rows, columns = block_counts(game[0])
    return BUCKET + rows * columns


def first_world(game, seed):
    """Returns the world ahead of all ticks."""
    need_game(game)
    if not is_between(seed, 0, MOST_SEED):
        raise InvalidNumber(seed)
    empty = (None,) * SLOTS + ((),) * SLOTS + (seed,) + (0,) * MARKS
    sheet = Sheet(empty + ((),) * (_count(game) - BUCKET))
    starts = game[0][1]
    for slot, (kind, house, x, y) in enumerate(starts):
        put_thing(game, sheet, slot, new_body(game, kind, house, x, y, 0, 0))
    for slot in range(len(starts)):
        sheet.put(slot, with_rest(sheet.at(slot), stands_on(game, sheet, slot)))
    return sheet.told()


def is_world(game, told):
    """Returns True if a tuple of cells is a right world."""
    return wrong_cell(game, told) is None


def wrong_cell(game, told):
    """Returns the least cell that is not right, None if there is none."""
    need_game(game)
    for cell, value in enumerate(told[:BUCKET]):
        if not _is_right(game, told, cell, value):
            return cell
    for cell, bucket in enumerate(right_buckets(game, told), start=BUCKET):
        if cell < len(told) and told[cell] != bucket:
            return cell
    if len(told) == _count(game):
        return None
    return min(len(told), _count(game))


def _is_right(game, told, cell, value):
    """Returns True if a cell ahead of the buckets is right beside those ahead of it."""
    if cell < MET:
        return value is None or stands_right(game, told, cell)
    if cell < SEED:
        return are_met(told[cell - MET], cell - MET, value)
    if cell == SEED:
        return is_between(value, 0, MOST_SEED)
    return is_between(value, -MOST_SET, MOST_SET)


def kind_of_cell(game, cell):
    """Returns (name, number) of a cell."""
    if not is_between(cell, 0, cells_of(game) - 1):
        raise InvalidCell(cell)
    if cell < MET:
        return ("slot", cell)
    if cell < SEED:
        return ("met", cell - MET)
    if cell == SEED:
        return ("seed", 0)
    if cell < BUCKET:
        return ("mark", cell - MARK)
    return ("bucket", cell - BUCKET)


def bucket_cells(game, box):
    """Returns the ascending tuple of the cells of buckets in which a box has a unit."""
    need_game(game)
    return buckets_of(game, box)


def with_thing(game, world, slot, thing):
    """Returns the world with a thing, or None, in a slot."""
    need_game(game)
    if not is_between(slot, 0, SLOTS - 1):
        raise InvalidSlot(slot)
    if thing is not None and not is_body(game, thing):
        raise InvalidThing(thing)
    sheet = Sheet(world)
    put_thing(game, sheet, slot, thing)
    return sheet.told()


def unlike(one, other):
    """Returns the ascending tuple of the cells in which two worlds differ."""
    if len(one) != len(other):
        raise InvalidPair((len(one), len(other)))
    return tuple([cell for cell in range(len(one)) if one[cell] != other[cell]])


class Looks:
    """A world, and which of its cells were looked at."""

    def __init__(self, world):
        self._world = world
        self._looked = {}

    def at(self, cell):
        """Returns the value of a cell and notes it."""
        if not is_between(cell, 0, len(self._world) - 1):
            raise InvalidCell(cell)
        self._looked[cell] = True
        return self._world[cell]

    def seen(self):
        """Returns the ascending tuple of (cell, value) of all that were looked at."""
        return tuple([(cell, self._world[cell]) for cell in sorted(self._looked)])
