"""Sums of worlds, by which two runs are compared."""

from latepresses.errors import InvalidNumber, InvalidPair, InvalidWorld

MODULUS = 2305843009213693951
NONE_SUM = 11
FIRST_SUM = 13


def thing_sum(value):
    """Returns the sum of the value of a cell: of an integer, None, or a tuple of such."""
    if value is None:
        return NONE_SUM
    if not isinstance(value, tuple):
        return (value * 2654435761 + 97) % MODULUS
    told = FIRST_SUM
    for part in value:
        told = (told * 1000003 + thing_sum(part) + 17) % MODULUS
    return (told + len(value)) % MODULUS


def stretch_sum(world, first, last):
    """Returns the sum of the cells of a world from first to last less 1."""
    if first < 0 or first >= len(world):
        raise InvalidNumber(first)
    if last <= first or last > len(world):
        raise InvalidNumber(last)
    return thing_sum(world[first:last])


def chained(worlds):
    """Returns the list of the sums of worlds, in each of which is the one ahead."""
    sums = []
    ahead = 0
    for world in worlds:
        ahead = thing_sum((ahead, thing_sum(world)))
        sums.append(ahead)
    return sums


def parted(one, other):
    """Returns (tick, cell, asked): where two rows of worlds part, and how many pairs of sums were asked for it."""
    _need_pairs(one, other)
    one_sums = chained(one)
    other_sums = chained(other)
    if one_sums[-1] == other_sums[-1]:
        return None
    tick, asked = _tick_by_halves(one_sums, other_sums)
    cell, asked_behind = _cell_by_halves(one[tick], other[tick])
    return (tick, cell, asked + asked_behind)


def _need_pairs(one, other):
    """Raises an error if two rows of worlds can not be compared."""
    if len(one) != len(other):
        raise InvalidPair((len(one), len(other)))
    for world, beside in zip(one, other):
        if len(world) != len(beside):
            raise InvalidPair((len(world), len(beside)))
    if len(one) == 0:
        raise InvalidWorld(())


def _tick_by_halves(one_sums, other_sums):
    """Returns (tick, asked): the tick at which chained sums part, of which the last ones differ."""
    first = 0
    last = len(one_sums) - 1
    asked = 0
    while first < last:
        middle = (first + last) // 2
        asked += 1
        if one_sums[middle] != other_sums[middle]:
            last = middle
        else:
            first = middle + 1
    return (first, asked)


def _cell_by_halves(one, other):
    """Returns (cell, asked): a cell in which two worlds of unlike sums differ."""
    first = 0
    last = len(one)
    asked = 0
    while last - first > 1:
        middle = (first + last) // 2
        asked += 1
        if thing_sum(one[first:middle]) != thing_sum(other[first:middle]):
            last = middle
        else:
            first = middle
    return (first, asked)
