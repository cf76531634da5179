"""Levels, kinds and games, and what the floor is made of."""

from latepresses.errors import InvalidGame, InvalidLevel
from latepresses.forms import is_sign, kinds_in
from latepresses.ground import block_counts, extent, is_clear, is_held_up, sign_of_unit
from latepresses.limits import MOST_SET, NO_HOUSE
from latepresses.plain import ascends, is_between, is_name, is_row, is_whole
from latepresses.rightness import starts_stand_right
from latepresses.scripts import is_script

TRAITS = ("bars", "carries", "falls", "frail", "pushed")
LEAST_ROWS = 3
MOST_ROWS = 16
MOST_STARTS = 12
MOST_KINDS = 8


def is_level(told):
    """Returns True if a tuple is a level, whatever kinds its starts name."""
    if not isinstance(told, tuple) or len(told) != 4:
        return False
    rows, starts, houses, pull = told
    if not is_between(houses, 1, 4) or not is_between(pull, 0, 3):
        return False
    return _are_rows(rows) and _are_starts(starts, houses)


def _are_rows(rows):
    """Returns True if these are the rows of a floor."""
    if not isinstance(rows, tuple) or not is_between(len(rows), LEAST_ROWS, MOST_ROWS):
        return False
    return all([_is_row_of_signs(row) and len(row) == len(rows[0]) for row in rows])


def _is_row_of_signs(row):
    """Returns True if this is a row of a floor."""
    if not isinstance(row, str) or not is_between(len(row), 4, 24):
        return False
    return all([is_sign(sign) for sign in row])


def _are_starts(starts, houses):
    """Returns True if these are starts by their form."""
    if not isinstance(starts, tuple) or len(starts) > MOST_STARTS:
        return False
    return all([_is_start(start, houses) for start in starts])


def _is_start(start, houses):
    """Returns True if this is (kind, house, x, y), whatever the kind."""
    if not isinstance(start, tuple) or len(start) != 4:
        return False
    return all([is_whole(number) for number in start]) and is_between(start[1], NO_HOUSE, houses - 1)


def is_kind(told):
    """Returns True if a tuple is a kind."""
    if not isinstance(told, tuple) or len(told) != 6:
        return False
    name, wide, high, traits, own, rules = told
    if not is_between(wide, 1, 16) or not is_between(high, 1, 16):
        return False
    return is_name(name) and _are_traits(traits) and _is_own(own) and is_script(rules)


def _is_own(own):
    """Returns True if these are own numbers."""
    return is_row(own, -MOST_SET, MOST_SET) and len(own) == 4


def _are_traits(traits):
    """Returns True if these are traits that go together."""
    if not isinstance(traits, tuple) or not all([trait in TRAITS for trait in traits]):
        return False
    if ("pushed" in traits or "carries" in traits) and "bars" not in traits:
        return False
    return ascends(traits)


def is_game(told):
    """Returns True if a pair of a level and a tuple of kinds is a right game."""
    if not isinstance(told, tuple) or len(told) != 2:
        return False
    level, kinds = told
    return is_level(level) and _are_kinds(kinds) and starts_stand_right(level, kinds)


def _are_kinds(kinds):
    """Returns True if these are kinds, each of another name, whose scripts tell of these alone."""
    if not isinstance(kinds, tuple) or not is_between(len(kinds), 1, MOST_KINDS):
        return False
    names = {}
    for kind in kinds:
        if not is_kind(kind) or kind[0] in names:
            return False
        names[kind[0]] = True
        if any([index >= len(kinds) for index in kinds_in(kind[5])]):
            return False
    return True


def need_game(game):
    """Raises InvalidGame if a game is none."""
    if not is_game(game):
        raise InvalidGame(game)


def _need_level(level):
    """Raises InvalidLevel if a level is none."""
    if not is_level(level):
        raise InvalidLevel(level)


def sign_at(level, x, y):
    """Returns the sign of the square with a unit, also outside of the floor."""
    _need_level(level)
    return sign_of_unit(level, x, y)


def is_free(level, box):
    """Returns True if no wall has a unit in a box."""
    _need_level(level)
    return is_clear(level, box)


def lands(level, box):
    """Returns True if the box can not go one unit down for walls or ledges."""
    _need_level(level)
    return is_held_up(level, box)


def floor_size(level):
    """Returns (wide, high) of the floor in units."""
    _need_level(level)
    return extent(level)


def blocks(level):
    """Returns (rows, columns) of the buckets of the floor."""
    _need_level(level)
    return block_counts(level)
