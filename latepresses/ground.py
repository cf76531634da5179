"""The floor of a right level: its squares, its walls, its blocks."""

from latepresses.boxes import moved

SQUARE = 8
BLOCK_SQUARES = 4
BLOCK = 32
WALLS = "#<>"
OUTSIDE = "#"
BELOW = "."


def extent(level):
    """Returns (wide, high) of the floor in units."""
    rows = level[0]
    return (len(rows[0]) * SQUARE, len(rows) * SQUARE)


def block_counts(level):
    """Returns (rows, columns) of the blocks of the floor."""
    rows = level[0]
    above = BLOCK_SQUARES - 1
    return ((len(rows) + above) // BLOCK_SQUARES, (len(rows[0]) + above) // BLOCK_SQUARES)


def sign_of_unit(level, x, y):
    """Returns the sign of the square with a unit."""
    wide, high = extent(level)
    if x < 0 or x >= wide or y < 0:
        return OUTSIDE
    if y >= high:
        return BELOW
    return level[0][y // SQUARE][x // SQUARE]


def signs_in(level, box):
    """Returns the list of the texts of signs, row by row, of the squares of the floor in which a box has a unit."""
    x, y, wide, high = box
    top = max(0, y // SQUARE)
    end = max(0, (y + high - 1) // SQUARE + 1)
    left = max(0, x // SQUARE)
    right = max(0, (x + wide - 1) // SQUARE + 1)
    return [row[left:right] for row in level[0][top:end]]


def is_clear(level, box):
    """Returns True if no wall has a unit in a box."""
    wide = extent(level)[0]
    if box[0] < 0 or box[1] < 0 or box[0] + box[2] > wide:
        return False
    for signs in signs_in(level, box):
        for sign in signs:
            if sign in WALLS:
                return False
    return True


def is_held_up(level, box):
    """Returns True if walls or ledges bar a box one unit further down."""
    if not is_clear(level, moved(box, 0, 1)):
        return True
    x, y, wide, high = box
    side = y + high
    if side % SQUARE != 0:
        # The lower side is within a square, so it stood not above a ledge that it would meet.
        return False
    return any(["=" in signs for signs in signs_in(level, (x, side, wide, 1))])


def is_barred(level, box, dx, dy):
    """Returns True if walls, or in going down ledges, bar a box one unit further on."""
    if dy > 0:
        return is_held_up(level, box)
    return not is_clear(level, moved(box, dx, dy))


def is_below(level, box):
    """Returns True if a box is wholly below the floor."""
    return box[1] >= extent(level)[1]


def is_on_spikes(level, box):
    """Returns True if a box has a unit in spikes."""
    return any(["^" in signs for signs in signs_in(level, box)])
