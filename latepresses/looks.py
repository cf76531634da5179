"""Notes of deeds: the house that one heard, the cells that it looked at, and what it wrote."""

from latepresses.checks import are_presses, need_presses, need_run, need_world
from latepresses.deeds import need_deed
from latepresses.engine import note_of, run_noted, tick_noted, write
from latepresses.errors import InvalidTrace
from latepresses.levels import need_game
from latepresses.plain import is_between


def noted(game, presses, deed, world):
    """Returns the note of a deed on a world, also on one within a tick."""
    need_game(game)
    need_presses(game, presses)
    need_deed(deed)
    return note_of(game, presses, deed, world)


def traced(game, world, presses):
    """Returns (world, notes): the world behind a tick, and the tuple of its notes."""
    need_run(game, world, (presses,))
    return tick_noted(game, world, presses)


def trace(game, world, rows):
    """Returns the tuple of (presses, notes) for each tick."""
    need_run(game, world, rows)
    return run_noted(game, world, rows)


def behind(world, notes):
    """Returns the world behind a tick by what was written in it."""
    cells = list(world)
    for note in notes:
        if not all([is_between(cell, 0, len(cells) - 1) for cell, _ in note[2]]):
            raise InvalidTrace(notes)
        write(cells, note[2])
    return tuple(cells)


def touches(one, other):
    """Returns True if the note of a later deed looked at a cell that the one wrote."""
    wrote = [cell for cell, _ in one[2]]
    return any([cell in wrote for cell, _ in other[1]])


def is_trace(game, world, told):
    """Returns True if this is the trace of its presses from a world."""
    need_world(game, world)
    for presses, notes in told:
        if not are_presses(game, presses):
            return False
        world, right = tick_noted(game, world, presses)
        if notes != right:
            return False
    return True
