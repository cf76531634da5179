"""Boxes (x, y, wide, high) of whole units."""

from latepresses.errors import InvalidNumber, InvalidPair

DIRECTIONS = ((-1, 0), (1, 0), (0, -1), (0, 1))


def meet(one, other):
    """Returns True if both boxes have a unit in common."""
    return (one[0] < other[0] + other[2] and other[0] < one[0] + one[2]
            and one[1] < other[1] + other[3] and other[1] < one[1] + one[3])


def grown(box, by):
    """Returns the box that is larger by so many units on all four sides."""
    if by < 0:
        raise InvalidNumber(by)
    x, y, wide, high = box
    return (x - by, y - by, wide + 2 * by, high + 2 * by)


def moved(box, dx, dy):
    """Returns the box so much further across and down."""
    x, y, wide, high = box
    return (x + dx, y + dy, wide, high)


def squares(box, size):
    """Returns the list of the (row, column) of the squares in which a box has a unit."""
    if size < 1:
        raise InvalidNumber(size)
    x, y, wide, high = box
    columns = range(x // size, (x + wide - 1) // size + 1)
    rows = range(y // size, (y + high - 1) // size + 1)
    return [(row, column) for row in rows for column in columns]


def gap(one, other, dx, dy):
    """Returns how many steps a box can go until the next one would meet another box, None if it never would."""
    if (dx, dy) not in DIRECTIONS:
        raise InvalidPair((dx, dy))
    if meet(one, other):
        return 0
    if dx != 0:
        steps = _between(one[0], one[2], other[0], other[2], dx)
        beside = meet(one, (one[0], other[1], 1, other[3]))
    else:
        steps = _between(one[1], one[3], other[1], other[3], dy)
        beside = meet(one, (other[0], one[1], other[2], 1))
    if steps < 0 or not beside:
        return None
    return steps


def _between(first, length, other_first, other_length, way):
    """Returns how many units lie between two stretches, below 0 if the other one is not ahead."""
    if way > 0:
        return other_first - (first + length)
    return first - (other_first + other_length)


def around(boxes):
    """Returns the least box around a list of boxes."""
    left = min([box[0] for box in boxes])
    top = min([box[1] for box in boxes])
    right = max([box[0] + box[2] for box in boxes])
    bottom = max([box[1] + box[3] for box in boxes])
    return (left, top, right - left, bottom - top)
