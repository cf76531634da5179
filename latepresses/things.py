"""Things: what stands on the floor."""

from latepresses.bodies import body_box, has_trait, is_body, is_house, is_kind_index, middle_unit, new_body
from latepresses.bodies import under_unit
from latepresses.errors import InvalidKind, InvalidNumber, InvalidThing
from latepresses.levels import TRAITS, need_game


def is_thing(game, told):
    """Returns True if a tuple is a thing of a game, wherever it stands."""
    need_game(game)
    return is_body(game, told)


def _need_thing(game, thing):
    """Raises InvalidGame or InvalidThing if one of them is none."""
    if not is_thing(game, thing):
        raise InvalidThing(thing)


def box_of(game, thing):
    """Returns the box of a thing."""
    _need_thing(game, thing)
    return body_box(game, thing)


def has(game, thing, trait):
    """Returns True if the kind of a thing has a trait."""
    _need_thing(game, thing)
    if trait not in TRAITS:
        raise InvalidKind(trait)
    return has_trait(game, thing, trait)


def born(game, kind, house, x, y, dx, dy):
    """Returns a thing that is born in the air, with the own numbers of its kind and its way made to fit."""
    need_game(game)
    if not is_kind_index(game, kind):
        raise InvalidKind(kind)
    if not is_house(game, house):
        raise InvalidNumber(house)
    return new_body(game, kind, house, x, y, dx, dy)


def middle(game, thing):
    """Returns the unit (x, y) at which a thing looks for what is here."""
    _need_thing(game, thing)
    return middle_unit(game, thing)


def under(game, thing):
    """Returns the unit (x, y) at which a thing looks for what is below."""
    _need_thing(game, thing)
    return under_unit(game, thing)
