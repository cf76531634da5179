"""Houses: each does ticks by what it knows and guesses, and does anew what it guessed otherwise."""

from latepresses.checks import is_press, need_world
from latepresses.engine import run_redone, tick_noted, worlds_noted
from latepresses.errors import InvalidHouse, InvalidLetter, InvalidNumber, InvalidPress, Left
from latepresses.guessing import first_other_guess, guess_of, guess_rows, known_end, least_end, with_row
from latepresses.letters import is_letter, letter_of
from latepresses.plain import is_between, with_part

MOST_WATCHERS = 2
MOST_DELAY = 8
MOST_LEAD = 20


class House:
    """One of the houses of a play, or one that watches it."""

    def __init__(self, game, world, many, watchers, who, delay, lead):
        need_world(game, world)
        _need_place(game, many, watchers, who, delay, lead)
        self._game = game
        self._many = many
        self._watchers = watchers
        self._who = who
        self._delay = delay
        self._lead = lead
        self._knowns = _known_at_first(many, delay)
        self._lags = (0,) * (many + watchers)
        # One world more than ticks: the first one, and that behind each.
        self._worlds = (world,)
        self._trace = ()

    @property
    def now(self):
        """Returns how many ticks it did."""
        return len(self._trace)

    @property
    def world(self):
        """Returns the world behind them."""
        return self._worlds[-1]

    @property
    def sure(self):
        """Returns the tick to which it did and knows all."""
        end = least_end(self._knowns)
        return self.now if end is None else min(end, self.now)

    @property
    def sure_world(self):
        """Returns the world at the tick to which it is sure."""
        return self._worlds[self.sure]

    @property
    def knowns(self):
        """Returns the tuple of what it knows of each house."""
        return self._knowns

    @property
    def lags(self):
        """Returns the tuple of the ticks to which the others told that they know this house."""
        return self._lags

    def must_wait(self):
        """Returns the least other house of which too little is known, None if there is none."""
        for house, known in enumerate(self._knowns):
            end = known_end(known)
            if house != self._who and end is not None and end <= self.now - self._lead:
                return house
        return None

    def go(self, press):
        """Makes a press and does a tick; returns False, and does nothing, if it must wait."""
        if not is_press(press):
            raise InvalidPress(press)
        if self.must_wait() is not None:
            return False
        self._make(press)
        presses = tuple([guess_of(known, self.now) for known in self._knowns])
        world, notes = tick_noted(self._game, self.world, presses)
        self._trace = self._trace + ((presses, notes),)
        self._worlds = self._worlds + (world,)
        return True

    def _make(self, press):
        """Makes the press for the tick that is due, if this is a house that goes on making presses."""
        tick = self.now + self._delay
        # Behind a fall presses that it made ahead of it are known, and are not made again.
        if self._who < self._many and known_end(self._knowns[self._who]) == tick:
            known = with_row(self._knowns[self._who], tick, (press,), None)
            self._knowns = with_part(self._knowns, self._who, known)

    def hear(self, letter):
        """Learns what a letter tells, does anew what was guessed otherwise, and returns how many deeds that were."""
        if not self._is_for_it(letter):
            raise InvalidLetter(letter)
        sender, first, row, ends, heard = letter
        begin = None
        if sender < self._many:
            elder = self._knowns[sender]
            newer = with_row(elder, first, row, ends)
            begin = first_other_guess((elder,), (newer,), 0, self.now)
            self._knowns = with_part(self._knowns, sender, newer)
        if self._who < self._many:
            self._lags = with_part(self._lags, sender, heard[self._who])
        return 0 if begin is None else self._do_anew(begin)

    def _is_for_it(self, told):
        """Returns True if it is a letter that another one of this play can send it."""
        if not is_letter(told):
            return False
        sender, _, row, ends, heard = told
        if sender == self._who or sender >= self._many + self._watchers or len(heard) != self._many:
            return False
        return sender < self._many or (row == () and ends is None)

    def _do_anew(self, begin):
        """Does the ticks from one on by the guesses of now; returns how many deeds were done again."""
        rows = guess_rows(self._knowns, self.now)[begin:]
        ticks, again = run_redone(self._game, self._worlds[begin], self._trace[begin:], rows)
        self._worlds = self._worlds[:begin] + worlds_noted(self._worlds[begin], ticks)
        self._trace = self._trace[:begin] + ticks
        return len(again)

    def letters(self):
        """Returns the tuple of the (to, letter) that it sends to each other house and watcher."""
        heard = tuple([_told_end(known) for known in self._knowns])
        others = [to for to in range(self._many + self._watchers) if to != self._who]
        return tuple([(to, self._letter_to(to, heard)) for to in others])

    def _letter_to(self, to, heard):
        """Returns the letter to another one."""
        if self._who >= self._many:
            return (self._who, 0, (), None, heard)
        return letter_of(self._who, self._knowns[self._who], self._lags[to], heard)

    def leave(self):
        """Lets its presses be 0 from the first tick on for which it has made none."""
        if self._who >= self._many or self._knowns[self._who][1] is not None:
            raise Left(0)
        row = self._knowns[self._who][0]
        known = (row, known_end(self._knowns[self._who]))
        self._knowns = with_part(self._knowns, self._who, known)

    def fall(self):
        """Forgets all but its own presses, and stands at tick 0 again."""
        knowns = _known_at_first(self._many, self._delay)
        if self._who < self._many:
            knowns = with_part(knowns, self._who, self._knowns[self._who])
        self._knowns = knowns
        self._lags = (0,) * (self._many + self._watchers)
        self._worlds = self._worlds[:1]
        self._trace = ()

    def worlds(self):
        """Returns the list of its worlds from the tick to which it is sure on."""
        return list(self._worlds[self.sure:])

    def twin(self):
        """Returns a house of its own that is as this one."""
        other = House(self._game, self._worlds[0], self._many, self._watchers, self._who, self._delay, self._lead)
        other._knowns = self._knowns
        other._lags = self._lags
        other._worlds = self._worlds
        other._trace = self._trace
        return other


def _need_place(game, many, watchers, who, delay, lead):
    """Raises the error of the first that does not fit for a house of a right game."""
    if many != game[0][2]:
        raise InvalidNumber(many)
    if not is_between(watchers, 0, MOST_WATCHERS):
        raise InvalidNumber(watchers)
    if not is_between(who, 0, many + watchers - 1):
        raise InvalidHouse(who)
    if not is_between(delay, 0, MOST_DELAY):
        raise InvalidNumber(delay)
    if not is_between(lead, 1, MOST_LEAD):
        raise InvalidNumber(lead)


def _known_at_first(many, delay):
    """Returns the tuple of what is known of each house ahead of all letters."""
    return ((tuple([(tick, 0) for tick in range(delay)]), None),) * many


def _told_end(known):
    """Returns to which tick one tells that it knows a house: its ends, if there is nothing more to know."""
    end = known_end(known)
    return known[1] if end is None else end
