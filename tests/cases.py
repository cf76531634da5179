"""What several files of tests ask in one way."""

import unittest

from slow_engine import SlowDeed
from samples import behind

DEEDS = tuple((phase, slot) for phase in range(5) for slot in range(16))


class Case(unittest.TestCase):
    def raises(self, error, value, call, *told, **named):
        """The call raises just this error, with just this value."""
        with self.assertRaises(error) as caught:
            call(*told, **named)
        self.assertIs(type(caught.exception), error)
        self.assertEqual(caught.exception.value, value)
        self.assertIs(type(caught.exception.value), type(value))


def changed(row, at, part):
    """A tuple with another part."""
    return row[:at] + (part,) + row[at + 1:]


def slow_tick(game, world, presses):
    """The world behind a tick, by the other engine."""
    for deed in DEEDS:
        world = behind(world, SlowDeed(game, world, presses, deed).writes)
    return world


def slow_notes(game, world, presses):
    """(world, notes) of a tick, by the other engine."""
    notes = []
    for phase, slot in DEEDS:
        slow = SlowDeed(game, world, presses, (phase, slot))
        heard = world[slot][1] if phase == 0 and world[slot] is not None else -1
        notes.append((heard, tuple((cell, world[cell]) for cell in sorted(slow.looked)), slow.writes))
        world = behind(world, slow.writes)
    return world, tuple(notes)
