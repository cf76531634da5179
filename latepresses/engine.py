"""Ticks of right games, worlds and presses: plain ones, ones with notes, and ones that are done again in part."""

from latepresses.cells import Looks
from latepresses.deeds import all_deeds
from latepresses.phases import house_heard, writes_of


def tick_done(game, world, presses):
    """Returns the world behind a tick."""
    cells = list(world)
    for deed in all_deeds():
        wrote = writes_of(game, presses, deed, Looks(cells))
        write(cells, wrote)
    return tuple(cells)


def worlds_behind(game, world, rows):
    """Returns the list of the worlds ahead of all ticks of a run, and behind each."""
    worlds = [world]
    for presses in rows:
        worlds.append(tick_done(game, worlds[-1], presses))
    return worlds


def last_world(game, world, rows):
    """Returns the world behind all ticks of a run."""
    for presses in rows:
        world = tick_done(game, world, presses)
    return world


def write(cells, wrote):
    """Puts what a deed wrote into a list of cells."""
    for cell, value in wrote:
        cells[cell] = value


def note_of(game, presses, deed, cells):
    """Returns the note of a deed on cells, which stay as they are."""
    looks = Looks(cells)
    wrote = writes_of(game, presses, deed, looks)
    return (house_heard(deed, cells[deed[1]]), looks.seen(), wrote)


def tick_noted(game, world, presses):
    """Returns (world, notes): the world behind a tick, and the notes of its deeds."""
    cells = list(world)
    notes = []
    for deed in all_deeds():
        note = note_of(game, presses, deed, cells)
        write(cells, note[2])
        notes.append(note)
    return (tuple(cells), tuple(notes))


def run_noted(game, world, rows):
    """Returns the trace of a run."""
    ticks = []
    for presses in rows:
        world, notes = tick_noted(game, world, presses)
        ticks.append((presses, notes))
    return tuple(ticks)


def worlds_noted(world, ticks):
    """Returns the tuple of the worlds ahead of all ticks of a trace, and behind each."""
    worlds = [world]
    cells = list(world)
    for _, notes in ticks:
        for note in notes:
            write(cells, note[2])
        worlds.append(tuple(cells))
    return tuple(worlds)


def run_redone(game, world, old, rows):
    """Returns (trace, again): the trace of other presses, and the (tick, index) of what was done again for it."""
    cells = list(world)
    ticks = []
    again = []
    for number, (presses, elder) in enumerate(zip(rows, old)):
        notes, indexes = _tick_redone(game, cells, elder, presses)
        ticks.append((presses, notes))
        again.extend([(number, index) for index in indexes])
    return (tuple(ticks), tuple(again))


def _tick_redone(game, cells, elder, presses):
    """Does a tick on a list of cells; returns its notes, and the list of the indexes of deeds done again."""
    elder_presses, elder_notes = elder
    notes = []
    again = []
    for index, deed in enumerate(all_deeds()):
        note = elder_notes[index]
        if _comes_otherwise(note, elder_presses, presses, cells):
            note = note_of(game, presses, deed, cells)
            again.append(index)
        write(cells, note[2])
        notes.append(note)
    return (tuple(notes), again)


def _comes_otherwise(note, elder_presses, presses, cells):
    """Returns True if the press that a deed heard, or a cell that it looked at, is another one now."""
    heard, looked, _ = note
    if heard >= 0 and presses[heard] != elder_presses[heard]:
        return True
    for cell, value in looked:
        if cells[cell] != value:
            return True
    return False
