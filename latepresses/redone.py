"""Runs that are done again with other presses: just the deeds for which something came otherwise."""

from latepresses.cells import unlike
from latepresses.checks import need_presses, need_run
from latepresses.engine import run_redone
from latepresses.errors import InvalidNumber, InvalidRows, InvalidTrace
from latepresses.looks import behind, is_trace
from latepresses.plain import is_between, with_part


def redone(game, world, old, rows):
    """Returns (trace, again): the trace of other presses, and the (tick, index of the deed) that were done again."""
    _need_old_run(game, world, old, rows)
    return run_redone(game, world, old, rows)


def reached(game, world, old, rows):
    """Returns the tuple of the tuples of the cells that are other behind each tick than in the old run."""
    _need_old_run(game, world, old, rows)
    return _reached_cells(game, world, old, rows)


def dies(game, world, old, rows):
    """Returns behind how many ticks no cell is other for good, None if some cell is other at the end."""
    _need_old_run(game, world, old, rows)
    many = 0
    for number, cells in enumerate(_reached_cells(game, world, old, rows), start=1):
        if cells != ():
            many = number + 1
    return many if many <= len(rows) else None


def touched_by(game, world, old, tick, house, press):
    """Returns what `reached` tells of the old run with one press put."""
    _need_trace(game, world, old)
    if not is_between(tick, 0, len(old) - 1):
        raise InvalidNumber(tick)
    if not is_between(house, 0, game[0][2] - 1):
        raise InvalidNumber(house)
    rows = [presses for presses, _ in old]
    rows[tick] = with_part(rows[tick], house, press)
    need_presses(game, rows[tick])
    return _reached_cells(game, world, old, rows)


def _need_trace(game, world, old):
    """Raises InvalidTrace if this is not the trace of its presses, and ahead of it what `is_trace` raises."""
    if not is_trace(game, world, old):
        raise InvalidTrace(old)


def _need_old_run(game, world, old, rows):
    """Raises the error of an old run, or of other presses for it, that is not right."""
    need_run(game, world, rows)
    _need_trace(game, world, old)
    if len(rows) != len(old):
        raise InvalidRows((len(rows), len(old)))


def _reached_cells(game, world, old, rows):
    """Returns what `reached` tells of a right run and right presses."""
    newer, _ = run_redone(game, world, old, rows)
    one = world
    other = world
    cells = []
    for (_, elder_notes), (_, newer_notes) in zip(old, newer):
        one = behind(one, elder_notes)
        other = behind(other, newer_notes)
        cells.append(unlike(one, other))
    return tuple(cells)
