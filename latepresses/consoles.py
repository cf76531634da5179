"""Consoles: games, plays and replays by their names, and orders that are texts."""

from latepresses.cells import first_world
from latepresses.errors import InvalidName, NothingToUndo, UnknownName, Unorderly, WrongKind
from latepresses.guessing import guess_rows
from latepresses.judge import takes
from latepresses.levels import need_game
from latepresses.orders import order_in
from latepresses.papers import paper_of
from latepresses.plain import is_name
from latepresses.plays import Play
from latepresses.readers import read_game
from latepresses.replays import Replay
from latepresses.texts import show_world

ANSWERS = ("sure", "house", "seek", "parted", "judge", "names")
CHOICES = ("go", "send", "bring", "lose", "double", "fall", "leave")


class Console:
    """Named games, plays and replays, and the calls that can be taken back."""

    def __init__(self):
        self._kept = {}
        # For each call that stands the name, and what it had ahead of it, None if there was none.
        self._elders = []

    def __len__(self):
        return len(self._elders)

    def names(self):
        """Returns the ascending list of (name, kind)."""
        return [(name, self._kept[name][0]) for name in sorted(self._kept)]

    def keep_game(self, name, game):
        """Keeps a game."""
        _need_name(name)
        need_game(game)
        self._keep(name, "game", game)

    def keep_play(self, name, game_name, seed, many, watchers, delay, lead):
        """Keeps a play of a named game from its first world."""
        _need_name(name)
        game = self._one("game", game_name)
        world = first_world(game, seed)
        self._keep(name, "play", Play(game, world, many, watchers, delay, lead))

    def choose(self, name, choice):
        """Does what a choice says in a play; returns 1 if it could be done, otherwise 0."""
        play = self._one("play", name).twin()
        could = play.choose(choice)
        self._keep(name, "play", play)
        return could

    def keep_replay(self, name, play_name):
        """Keeps the replay of the ticks to which all of a play are sure."""
        _need_name(name)
        play = self._one("play", play_name)
        rows = guess_rows(play.made, play.sure_all())
        self._keep(name, "replay", Replay(play.game, play.plain_world(0), rows))

    def other_press(self, name, tick, house, press):
        """Puts a replay with another press in the place of a named one."""
        self._keep(name, "replay", self._one("replay", name).pressed(tick, house, press))

    def cut_to(self, name, begin, end):
        """Puts the replay of some ticks in the place of a named one."""
        self._keep(name, "replay", self._one("replay", name).cut(begin, end))

    def drop(self, name):
        """Forgets what has a name."""
        self._need_known((name,))
        self._elders.append((name, self._kept[name]))
        del self._kept[name]

    def undo(self):
        """Takes back the last call that stands."""
        if self._elders == []:
            raise NothingToUndo(0)
        name, elder = self._elders.pop()
        if elder is None:
            del self._kept[name]
        else:
            self._kept[name] = elder

    def _keep(self, name, kind, thing):
        """Gives a name to something; what is kept is never changed, so that it can come back."""
        self._elders.append((name, self._kept.get(name)))
        self._kept[name] = (kind, thing)

    def _one(self, kind, name):
        """Returns what has a name, which has to be of a kind."""
        self._need_known((name,))
        kept_kind, thing = self._kept[name]
        if kept_kind != kind:
            raise WrongKind(name)
        return thing

    def _need_known(self, names):
        """Raises UnknownName for the first name that nothing has."""
        for name in names:
            if name not in self._kept:
                raise UnknownName(name)

    def house(self, name, h):
        """Returns a twin of a house or watcher of a play."""
        return self._one("play", name).house(h)

    def sure_of(self, name):
        """Returns the tick to which all of a play are sure."""
        return self._one("play", name).sure_all()

    def sought(self, name, tick):
        """Returns the world of a replay behind so many ticks."""
        return self._one("replay", name).sought(tick)

    def parted(self, one, other):
        """Returns the first tick at which the worlds of two replays differ, None if there is none."""
        self._need_known((one, other))
        return self._one("replay", one).first_parted(self._one("replay", other))

    def judged(self, name, every):
        """Returns True if a play's game takes its paper, otherwise False."""
        play = self._one("play", name)
        return takes(play.game, paper_of(play, every))

    def order(self, text):
        """Does what a text says, and returns the answer."""
        if text.startswith("game "):
            return self._keep_game_of(text)
        told = order_in(text)
        if told is None:
            raise Unorderly(text)
        name, parts = told
        if name in ANSWERS:
            return self._answer(name, parts)
        if name in CHOICES:
            return "done" if self.choose(parts[0], (name, *parts[1:])) == 1 else "nothing"
        self._do_call(name, parts)
        return "done"

    def _keep_game_of(self, text):
        """Keeps the game that is told behind the first line of an order."""
        head, newline, body = text.partition("\n")
        words = head.split(" ")
        if len(words) != 2 or not is_name(words[1]) or newline == "":
            raise Unorderly(text)
        self.keep_game(words[1], read_game(body))
        return "done"

    def _do_call(self, name, parts):
        """Does an order that has no answer of its own."""
        if name == "play":
            play_name, game_name, seed, many, watchers, delay, lead = parts
            self.keep_play(play_name, game_name, seed, many, watchers, delay, lead)
        elif name == "replay":
            self.keep_replay(parts[0], parts[1])
        elif name == "press":
            self.other_press(parts[0], parts[1], parts[2], parts[3])
        elif name == "cut":
            self.cut_to(parts[0], parts[1], parts[2])
        elif name == "drop":
            self.drop(parts[0])
        else:
            self.undo()

    def _answer(self, name, parts):
        """Returns the answer of an order that asks something."""
        if name == "sure":
            return str(self.sure_of(parts[0]))
        if name == "house":
            return show_world(self.house(parts[0], parts[1]).world)
        if name == "seek":
            return show_world(self.sought(parts[0], parts[1]))
        if name == "parted":
            tick = self.parted(parts[0], parts[1])
            return "none" if tick is None else str(tick)
        if name == "judge":
            return "yes" if self.judged(parts[0], parts[1]) else "no"
        lines = [f"{told} {kind}" for told, kind in self.names()]
        return "\n".join(lines) if lines else "none"


def _need_name(name):
    """Raises InvalidName if a new name is none."""
    if not is_name(name):
        raise InvalidName(name)
