"""Things of a right game: their boxes and traits, and things that differ a little."""

from latepresses.ground import is_below, sign_of_unit
from latepresses.limits import IN_THE_AIR, MOST_SET, MOST_WAY, NO_HOUSE, SLOTS
from latepresses.plain import is_between, is_row, is_whole, kept


def is_kind_index(game, kind):
    """Returns True if a right game has a kind of this index."""
    return is_between(kind, 0, len(game[1]) - 1)


def is_house(game, house):
    """Returns True if a thing of a right game may have this house, none included."""
    return is_between(house, NO_HOUSE, game[0][2] - 1)


def is_body(game, told):
    """Returns True if a tuple is a thing of a right game, wherever it stands."""
    if not isinstance(told, tuple) or len(told) != 8:
        return False
    kind, house, x, y, dx, dy, rest, own = told
    if not is_kind_index(game, kind) or not is_house(game, house):
        return False
    if not is_whole(x) or not is_whole(y) or not is_between(rest, IN_THE_AIR, SLOTS - 1):
        return False
    return is_row((dx, dy), -MOST_WAY, MOST_WAY) and is_row(own, -MOST_SET, MOST_SET) and len(own) == 4


def body_box(game, thing):
    """Returns the box of a thing."""
    kind = game[1][thing[0]]
    return (thing[2], thing[3], kind[1], kind[2])


def has_trait(game, thing, trait):
    """Returns True if the kind of a thing has a trait."""
    return trait in game[1][thing[0]][3]


def is_fallen(game, thing):
    """Returns True if a thing is wholly below the floor."""
    return is_below(game[0], body_box(game, thing))


def new_body(game, kind, house, x, y, dx, dy):
    """Returns a thing that is born, its way made to fit."""
    fit_dx = kept(dx, -MOST_WAY, MOST_WAY)
    fit_dy = kept(dy, -MOST_WAY, MOST_WAY)
    return (kind, house, x, y, fit_dx, fit_dy, IN_THE_AIR, game[1][kind][4])


def middle_unit(game, thing):
    """Returns the unit at which a thing looks for what is here."""
    x, y, wide, high = body_box(game, thing)
    return (x + wide // 2, y + high // 2)


def under_unit(game, thing):
    """Returns the unit at which a thing looks for what is below."""
    x, y, wide, high = body_box(game, thing)
    return (x + wide // 2, y + high)


def sign_here(game, thing):
    """Returns the sign of the floor in the middle of a thing."""
    x, y = middle_unit(game, thing)
    return sign_of_unit(game[0], x, y)


def sign_under(game, thing):
    """Returns the sign of the floor below the middle of the lower side of a thing."""
    x, y = under_unit(game, thing)
    return sign_of_unit(game[0], x, y)


def further_on(thing, dx, dy):
    """Returns a thing that stands so much further across and down."""
    return thing[:2] + (thing[2] + dx, thing[3] + dy) + thing[4:]


def with_way(thing, dx, dy):
    """Returns a thing that is to go so far."""
    return thing[:4] + (dx, dy) + thing[6:]


def with_rest(thing, rest):
    """Returns a thing that rests so."""
    return thing[:6] + (rest,) + thing[7:]


def with_own(thing, own):
    """Returns a thing with other own numbers."""
    return thing[:7] + (own,)
