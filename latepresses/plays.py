"""Plays: houses and watchers, and the letters that are under way between them."""

from latepresses.engine import worlds_behind
from latepresses.errors import InvalidHouse, InvalidTick, Left
from latepresses.guessing import guess_rows, least_end
from latepresses.houses import House
from latepresses.letters import doubled, put, taken
from latepresses.plain import is_between

BOUND = 40


class Play:
    """Some houses and watchers that begin with one world, and a bag of letters."""

    def __init__(self, game, world, many, watchers, delay, lead):
        # The first house finds what is wrong, ahead of counting how many there are to be.
        first = House(game, world, many, watchers, 0, delay, lead)
        others = [House(game, world, many, watchers, who, delay, lead) for who in range(1, many + watchers)]
        self._settings = (game, world, many, watchers, delay, lead)
        self._houses = [first] + others
        self._bag = ()

    @property
    def game(self):
        """Returns the game that is played."""
        return self._settings[0]

    @property
    def bag(self):
        """Returns the tuple of the (to, letter) that are under way."""
        return self._bag

    @property
    def made(self):
        """Returns the tuple of what each house made."""
        many = self._settings[2]
        return tuple([house.knowns[h] for h, house in enumerate(self._houses[:many])])

    def house(self, h):
        """Returns a twin of a house or watcher."""
        if not self._has_house(h):
            raise InvalidHouse(h)
        return self._houses[h].twin()

    def _has_house(self, h):
        """Returns True if there is such a house or watcher."""
        return is_between(h, 0, len(self._houses) - 1)

    def choose(self, choice):
        """Does what a choice says; returns 1 if it could be done, otherwise 0."""
        name = choice[0]
        at = choice[1]
        if name in ("bring", "lose", "double"):
            if not is_between(at, 0, len(self._bag) - 1):
                return 0
            self._move_letter(name, at)
            return 1
        if not self._has_house(at):
            return 0
        if name == "go":
            return 1 if self._houses[at].go(choice[2]) else 0
        if name == "leave":
            return self._leave(at)
        if name == "send":
            self._send(at)
        else:
            self._houses[at].fall()
        return 1

    def _move_letter(self, name, k):
        """Brings, loses or doubles the letter at a place of the bag."""
        if name == "double":
            self._bag = doubled(self._bag, k)
            return
        (to, letter), bag = taken(self._bag, k)
        if name == "bring":
            self._houses[to].hear(letter)
        self._bag = bag

    def _leave(self, h):
        """Lets a house leave; returns 1 if it could, otherwise 0."""
        try:
            self._houses[h].leave()
        except Left:
            return 0
        return 1

    def _send(self, h):
        """Puts the letters of a house or watcher into the bag."""
        for to, letter in self._houses[h].letters():
            self._bag = put(self._bag, to, letter)

    def choose_all(self, choices):
        """Does what choices say, one behind the other; returns how many could be done."""
        return sum([self.choose(choice) for choice in choices])

    def plain_world(self, tick):
        """Returns the engine's world at a tick by the presses made."""
        return self.plain_worlds(tick)[-1]

    def plain_worlds(self, tick):
        """Returns the list of the engine's worlds at all ticks to one by the presses made."""
        end = least_end(self.made)
        if tick < 0 or (end is not None and tick > end):
            raise InvalidTick(tick)
        game, world = self._settings[:2]
        return worlds_behind(game, world, guess_rows(self.made, tick))

    def sure_all(self):
        """Returns the least tick to which one is sure."""
        return min([house.sure for house in self._houses])

    def _greatest_now(self):
        """Returns the greatest tick that any did."""
        return max([house.now for house in self._houses])

    def going_on(self):
        """Returns a tuple of choices behind which all are sure to the greatest tick that any did."""
        end = self._greatest_now()
        other = self.twin()
        choices = []
        while other.sure_all() < end:
            choices.extend(other._round_done(end))
        return tuple(choices)

    def _round_done(self, end):
        """Lets all hear all, and do a tick if they are below an end; returns the list of the choices for this."""
        elder = len(self.bag)
        choices = [("send", h) for h in range(len(self._houses))]
        self.choose_all(choices)
        brought = [("bring", elder) for _ in range(len(self.bag) - elder)]
        self.choose_all(brought)
        gone = []
        for h, house in enumerate(self._houses):
            if house.now < end and house.go(0):
                gone.append(("go", h, 0))
        return choices + brought + gone

    def twin(self):
        """Returns a play of its own that is as this one."""
        game, world, many, watchers, delay, lead = self._settings
        other = Play(game, world, many, watchers, delay, lead)
        other._houses = [house.twin() for house in self._houses]
        other._bag = self._bag
        return other

    def bound(self):
        """Returns how many choices `going_on` tells at most."""
        many = len(self._houses)
        return BOUND * many * many * (2 + self._greatest_now())
