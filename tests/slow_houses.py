"""Houses and plays once more: what is known stands in dicts, and everything is done from the first tick on."""

from latepresses.looks import trace
from latepresses.redone import redone
from latepresses.ticks import last


class SlowHouse:
    def __init__(self, game, world, many, watchers, who, delay, lead):
        self.game, self.first, self.many, self.all = game, world, many, many + watchers
        self.who, self.delay, self.lead = who, delay, lead
        self.presses = [dict.fromkeys(range(delay), 0) for _ in range(many)]
        self.ends = [None] * many
        self.now = 0
        self.lags = [0] * self.all

    def press(self, house, tick):
        """The press that is known, None if none is."""
        ends = self.ends[house]
        return 0 if ends is not None and tick >= ends else self.presses[house].get(tick)

    def known_to(self, house, end=500):
        return next((tick for tick in range(end) if self.press(house, tick) is None), None)

    def guess(self, house, tick):
        while tick >= 0:
            press = self.press(house, tick)
            if press is not None:
                return press
            tick -= 1
        return 0

    def rows(self, end):
        return tuple(tuple(self.guess(house, tick) for house in range(self.many)) for tick in range(end))

    @property
    def sure(self):
        known = [self.known_to(house) for house in range(self.many)]
        return min([self.now] + [tick for tick in known if tick is not None])

    @property
    def knowns(self):
        return tuple((tuple(sorted(self.presses[house].items())), self.ends[house]) for house in range(self.many))

    def worlds(self):
        return [last(self.game, self.first, self.rows(tick)) for tick in range(self.sure, self.now + 1)]

    def must_wait(self):
        for house in range(self.many):
            to = self.known_to(house)
            if house != self.who and to is not None and to <= self.now - self.lead:
                return house
        return None

    def go(self, press):
        if self.must_wait() is not None:
            return False
        if self.who < self.many and self.ends[self.who] is None:
            self.presses[self.who].setdefault(self.now + self.delay, press)
        self.now += 1
        return True

    def hear(self, letter):
        sender, first, row, ends, heard = letter
        elder = self.rows(self.now)
        if sender < self.many:
            self.presses[sender].update({first + at: press for at, press in enumerate(row)})
            self.ends[sender] = ends if ends is not None else self.ends[sender]
        if self.who < self.many:
            self.lags[sender] = heard[self.who]
        old = trace(self.game, self.first, elder)
        return len(redone(self.game, self.first, old, self.rows(self.now))[1])

    def letters(self):
        heard = []
        for house in range(self.many):
            to = self.known_to(house)
            heard.append(self.ends[house] if to is None else to)
        told = []
        for to in range(self.all):
            if to == self.who:
                continue
            if self.who >= self.many:
                told.append((to, (self.who, 0, (), None, tuple(heard))))
                continue
            row = []
            while len(row) < 32 and self.lags[to] + len(row) in self.presses[self.who]:
                row.append(self.presses[self.who][self.lags[to] + len(row)])
            ends = self.ends[self.who] if self.lags[to] + len(row) == self.ends[self.who] else None
            told.append((to, (self.who, self.lags[to], tuple(row), ends, tuple(heard))))
        return tuple(told)

    def leave(self):
        """False if there is nothing to leave."""
        if self.who >= self.many or self.ends[self.who] is not None:
            return False
        self.ends[self.who] = len(self.presses[self.who])
        return True

    def fall(self):
        for house in range(self.many):
            if house != self.who:
                self.presses[house] = dict.fromkeys(range(self.delay), 0)
                self.ends[house] = None
        self.now = 0
        self.lags = [0] * self.all


class SlowPlay:
    def __init__(self, game, world, many, watchers, delay, lead):
        self.houses = [SlowHouse(game, world, many, watchers, who, delay, lead) for who in range(many + watchers)]
        self.bag = []

    def choose(self, choice):
        """1 or 0, as the play tells."""
        name, at, *more = choice
        if not 0 <= at < len(self.bag if name in ("bring", "lose", "double") else self.houses):
            return 0
        if name == "go":
            return int(self.houses[at].go(more[0]))
        if name == "leave":
            return int(self.houses[at].leave())
        if name == "send":
            self.bag += self.houses[at].letters()
        elif name == "fall":
            self.houses[at].fall()
        elif name == "double":
            self.bag.append(self.bag[at])
        else:
            to, letter = self.bag.pop(at)
            if name == "bring":
                self.houses[to].hear(letter)
        return 1


def random_choice(rng, many, room):
    """A choice by chance for so many houses and watchers and so many letters, now and then of what there is not."""
    name = rng.choices(("go", "send", "bring", "lose", "double", "fall", "leave"), (50, 14, 24, 3, 4, 2, 1))[0]
    if rng.random() < 0.03:
        at = rng.choice((-1, many if name in ("go", "send", "fall", "leave") else room, 99))
    else:
        at = rng.randrange(many if name in ("go", "send", "fall", "leave") else max(room, 1))
    return (name, at, rng.randrange(64)) if name == "go" else (name, at)
