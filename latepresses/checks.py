"""What has to be right ahead of a run: games, worlds and presses."""

from latepresses.cells import wrong_cell
from latepresses.errors import InvalidPress, InvalidWorld
from latepresses.limits import MOST_PRESS
from latepresses.plain import is_between, is_row


def is_press(told):
    """Returns True if it is a press."""
    return is_between(told, 0, MOST_PRESS)


def are_presses(game, told):
    """Returns True if these are the presses of a tick of a right game."""
    return is_row(told, 0, MOST_PRESS) and len(told) == game[0][2]


def need_presses(game, presses):
    """Raises InvalidPress if these are no presses of a tick of a right game."""
    if not are_presses(game, presses):
        raise InvalidPress(presses)


def need_world(game, world):
    """Raises InvalidGame or InvalidWorld if one of them is not right."""
    wrong = wrong_cell(game, world)
    if wrong is not None:
        raise InvalidWorld(wrong)


def need_run(game, world, rows):
    """Raises InvalidGame, InvalidWorld or InvalidPress if one of them is not right."""
    need_world(game, world)
    for presses in rows:
        need_presses(game, presses)
