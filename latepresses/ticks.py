"""Ticks and runs of a game."""

from latepresses.checks import need_run, need_world
from latepresses.engine import last_world, tick_done, worlds_behind
from latepresses.errors import InvalidNumber


def tick(game, world, presses):
    """Returns the world behind a tick."""
    need_run(game, world, (presses,))
    return tick_done(game, world, presses)


def run(game, world, rows):
    """Returns the list of the worlds ahead of all ticks, and behind each."""
    need_run(game, world, rows)
    return worlds_behind(game, world, rows)


def last(game, world, rows):
    """Returns the world behind all ticks."""
    need_run(game, world, rows)
    return last_world(game, world, rows)


def settled(game, world, most):
    """Returns behind how many ticks without presses one more changes nothing, None if it takes too many."""
    need_world(game, world)
    if most < 0:
        raise InvalidNumber(most)
    presses = (0,) * game[0][2]
    for many in range(most + 1):
        newer = tick_done(game, world, presses)
        if newer == world:
            return many
        world = newer
    return None
