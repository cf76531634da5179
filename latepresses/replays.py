"""Replays: runs that were done, to be sought, cut, joined and done otherwise."""

from latepresses.cells import unlike
from latepresses.checks import is_press, need_run
from latepresses.engine import worlds_behind
from latepresses.errors import InvalidHouse, InvalidNumber, InvalidPair, InvalidPress, InvalidTick
from latepresses.plain import is_between, with_part

OTHER_GAME = -1


class Replay:
    """The ticks from a world by presses; it never changes."""

    def __init__(self, game, world, rows):
        need_run(game, world, rows)
        self._game = game
        self._rows = tuple(rows)
        self._worlds = tuple(worlds_behind(game, world, rows))

    @property
    def game(self):
        """Returns the game that was played."""
        return self._game

    @property
    def world(self):
        """Returns the world ahead of all ticks."""
        return self._worlds[0]

    @property
    def rows(self):
        """Returns the tuple of the presses of all ticks."""
        return self._rows

    def __len__(self):
        return len(self._rows)

    def sought(self, tick):
        """Returns the world behind so many ticks."""
        _need_tick(tick, len(self))
        return self._worlds[tick]

    def cut(self, begin, end):
        """Returns the replay of the ticks from begin to end less 1."""
        _need_tick(begin, len(self))
        _need_tick(end, len(self))
        if end < begin:
            raise InvalidTick(end)
        return Replay(self._game, self._worlds[begin], self._rows[begin:end])

    def joined(self, other):
        """Returns the replay of this one and the other one behind it."""
        if self._game != other.game:
            raise InvalidPair((len(self), OTHER_GAME))
        cells = unlike(self._worlds[-1], other.world)
        if cells != ():
            raise InvalidPair((len(self), cells[0]))
        return Replay(self._game, self.world, self._rows + other.rows)

    def pressed(self, tick, house, press):
        """Returns the replay with another press."""
        _need_tick(tick, len(self) - 1)
        if not is_between(house, 0, self._game[0][2] - 1):
            raise InvalidHouse(house)
        if not is_press(press):
            raise InvalidPress(press)
        presses = with_part(self._rows[tick], house, press)
        return Replay(self._game, self.world, with_part(self._rows, tick, presses))

    def first_parted(self, other):
        """Returns the first tick at which this one's and the other one's worlds differ, None if there is none."""
        for tick in range(min(len(self), len(other)) + 1):
            if self._worlds[tick] != other.sought(tick):
                return tick
        return None


def _need_tick(tick, most):
    """Raises InvalidTick if a tick is not from 0 to the most."""
    if not is_between(tick, 0, most):
        raise InvalidTick(tick)


def packed(rows):
    """Returns the tuple of (many, presses) of equal presses side by side."""
    told = []
    for presses in rows:
        if told and told[-1][1] == presses:
            told[-1] = (told[-1][0] + 1, presses)
        else:
            told.append((1, presses))
    return tuple(told)


def unpacked(told):
    """Returns the rows that were packed so."""
    rows = []
    for many, presses in told:
        if many < 1:
            raise InvalidNumber(many)
        rows.extend([presses] * many)
    return tuple(rows)
