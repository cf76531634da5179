"""The deeds of a tick."""

from latepresses.checks import need_presses
from latepresses.errors import InvalidPair
from latepresses.levels import need_game
from latepresses.limits import SLOTS
from latepresses.phases import PHASES, house_heard, writes_of
from latepresses.plain import is_between


def all_deeds():
    """Returns the tuple of the 80 deeds of a tick, in their order."""
    return tuple([(phase, slot) for phase in range(PHASES) for slot in range(SLOTS)])


def done(game, presses, deed, looks):
    """Returns the ascending tuple of (cell, value) that a deed writes."""
    need_game(game)
    need_presses(game, presses)
    need_deed(deed)
    return writes_of(game, presses, deed, looks)


def hears(game, deed, thing):
    """Returns the house whose press a deed of a thing, or None, hears, -1 if it hears none."""
    need_game(game)
    need_deed(deed)
    return house_heard(deed, thing)


def need_deed(deed):
    """Raises InvalidPair if a deed is none."""
    if len(deed) != 2 or not is_between(deed[0], 0, PHASES - 1) or not is_between(deed[1], 0, SLOTS - 1):
        raise InvalidPair(deed)
