"""latepresses.consoles."""

import random
import unittest
from unittest import mock

from cases import Case, changed
from samples import first, played_game
from slow_houses import random_choice

from latepresses.cells import first_world
from latepresses.consoles import Console
from latepresses.errors import (GameError, InvalidGame, InvalidHouse, InvalidName, InvalidNumber, InvalidPress,
                                InvalidTick, NothingToUndo, UnknownName, Unorderly, Unreadable, WrongKind)
from latepresses.plays import Play
from latepresses.presses import guessed_rows
from latepresses.readers import read_world
from latepresses.texts import show_game, show_world
from latepresses.ticks import run

GAME = played_game(2)
WORLD = first(GAME)
WRONG_NAMES = ("", "A", "abcdefghi", "a b", "a1", "a-", " a", "a\n", "\u00e4", "a.", "1")
NO_INTEGERS = ("0x", "1.0", "+1", "-0", "00", "01", "", "1000000000", "-1000000000", "\u0663", "1_0", "one", "-", "--1")
TEXT = show_game(GAME)


def console():
    """A console with a game g, a play p of some choices, and a replay r of it."""
    told = Console()
    told.keep_game("g", GAME)
    told.keep_play("p", "g", 7, 2, 1, 1, 5)
    for choice in (("go", 0, 5), ("go", 1, 33), ("go", 0, 6), ("go", 1, 2), ("go", 2, 0), ("go", 2, 0), ("send", 0),
                   ("send", 1), ("bring", 0), ("bring", 0), ("bring", 0), ("bring", 0)):
        told.choose("p", choice)
    told.keep_replay("r", "p")
    return told


def play():
    """The play p."""
    told = Play(GAME, WORLD, 2, 1, 1, 5)
    told.choose_all((("go", 0, 5), ("go", 1, 33), ("go", 0, 6), ("go", 1, 2), ("go", 2, 0), ("go", 2, 0), ("send", 0),
                     ("send", 1), ("bring", 0), ("bring", 0), ("bring", 0), ("bring", 0)))
    return told


def state(told):
    """All that a console tells."""
    found = [told.names(), len(told)]
    for name, kind in told.names():
        if kind == "play":
            found.append((name, told.sure_of(name)))
            for h in range(9):
                try:
                    house = told.house(name, h)
                except InvalidHouse:
                    break
                found.append((house.now, house.knowns, house.lags, house.worlds(), house.letters()))
        elif kind == "replay":
            worlds = []
            try:
                for tick in range(70):
                    worlds.append(told.sought(name, tick))
            except InvalidTick:
                pass
            found.append((name, worlds))
    return found


class TestKept(Case):
    def test_at_first(self):
        told = Console()
        self.assertEqual((told.names(), len(told)), ([], 0))
        self.raises(NothingToUndo, 0, told.undo)

    def test_names_ascend(self):
        told = console()
        self.assertEqual(told.names(), [("g", "game"), ("p", "play"), ("r", "replay")])
        for name in ("zz", "abcdefgh", "h"):
            self.assertIsNone(told.keep_game(name, GAME))
        self.assertEqual(told.names(), [("abcdefgh", "game"), ("g", "game"), ("h", "game"), ("p", "play"),
                                        ("r", "replay"), ("zz", "game")])
        told.names().clear()
        self.assertEqual(len(told.names()), 6)

    def test_a_new_one_takes_the_place_of_an_elder_one(self):
        told = console()
        kept = state(told)
        told.keep_game("p", GAME)
        self.assertEqual(told.names(), [("g", "game"), ("p", "game"), ("r", "replay")])
        told.keep_play("r", "p", 3, 2, 0, 0, 5)
        told.keep_replay("p", "r")
        told.keep_replay("g", "r")
        self.assertEqual(told.names(), [("g", "replay"), ("p", "replay"), ("r", "play")])
        for _ in range(4):
            self.assertIsNone(told.undo())
        self.assertEqual(state(told), kept)

    def test_by_name(self):
        told = Console()
        told.keep_game(name="g", game=GAME)
        told.keep_play(name="p", game_name="g", seed=7, many=2, watchers=1, delay=0, lead=5)
        self.assertEqual(told.choose(name="p", choice=("leave", 0)), 1)
        told.choose(name="p", choice=("leave", 1))
        for h in range(3):
            told.choose("p", ("go", h, 0))
        for choice in (("send", 0), ("send", 1), ("bring", 0), ("bring", 0), ("bring", 0), ("bring", 0)):
            told.choose("p", choice)
        told.keep_replay(name="r", play_name="p")
        told.other_press(name="r", tick=0, house=0, press=5)
        self.assertEqual(told.sought(name="r", tick=0), WORLD)
        self.assertEqual(told.house(name="p", h=0).now, 1)
        self.assertEqual(told.sure_of(name="p"), 1)
        self.assertIsNone(told.parted(one="r", other="r"))
        self.assertIs(told.judged(name="p", every=1), True)
        told.cut_to(name="r", begin=0, end=0)
        told.drop(name="r")
        self.assertIsNone(told.undo())
        with self.assertRaises(Unorderly):
            told.order(text="")

    def test_a_play_is_of_the_first_world(self):
        told = console()
        self.assertIsNone(told.keep_play("q", "g", 9, 2, 0, 3, 20))
        self.assertEqual(told.house("q", 0).world, first_world(GAME, 9))
        self.assertEqual(told.house("q", 1).knowns[0], (((0, 0), (1, 0), (2, 0)), None))
        self.raises(InvalidHouse, 2, told.house, "q", 2)

    def test_a_play_stays_what_it_is_without_its_game(self):
        told = console()
        told.drop("g")
        self.assertEqual(told.choose("p", ("go", 0, 0)), 1)
        self.assertIs(told.judged("p", 1), True)
        told.keep_replay("s", "p")
        self.assertIsNone(told.parted("r", "s"))

    def test_choose(self):
        told = Console()
        told.keep_game("g", GAME)
        told.keep_play("p", "g", 7, 2, 1, 0, 1)
        same = Play(GAME, WORLD, 2, 1, 0, 1)
        rng = random.Random(171)
        for number in range(120):
            choice = random_choice(rng, 3, len(same.bag))
            self.assertEqual(told.choose("p", choice), same.choose(choice))
            # A call that did nothing stands, too.
            self.assertEqual(len(told), number + 3)
        for h in range(3):
            one, other = told.house("p", h), same.house(h)
            self.assertEqual((one.now, one.knowns, one.lags, one.worlds()),
                             (other.now, other.knowns, other.lags, other.worlds()))
        self.assertEqual(told.sure_of("p"), same.sure_all())

    def test_replays(self):
        told = console()
        same = play()
        self.assertEqual(same.sure_all(), 2)
        rows = guessed_rows(same.made, 2)
        worlds = run(GAME, WORLD, rows)
        self.assertEqual(rows, ((0, 0), (5, 33)))
        self.assertEqual([told.sought("r", tick) for tick in range(3)], worlds)
        self.raises(InvalidTick, 3, told.sought, "r", 3)
        self.assertIsNone(told.other_press("r", 1, 0, 2))
        self.assertEqual(told.sought("r", 2), run(GAME, WORLD, ((0, 0), (2, 33)))[2])
        told.keep_replay("s", "p")
        self.assertEqual((told.parted("r", "s"), told.parted("s", "r"), told.parted("s", "s")), (2, 2, None))
        self.assertIsNone(told.cut_to("s", 1, 2))
        self.assertEqual([told.sought("s", tick) for tick in range(2)], worlds[1:])
        self.assertEqual(told.parted("r", "s"), 0 if worlds[0] != worlds[1] else 1)
        told.choose("p", ("fall", 0))
        told.keep_replay("t", "p")
        self.raises(InvalidTick, 1, told.sought, "t", 1)

    def test_judged(self):
        told = console()
        for every in (1, 2, 50):
            self.assertIs(told.judged("p", every), True)
        for every in (0, -3):
            self.raises(InvalidNumber, every, told.judged, "p", every)

    def test_what_house_told_is_not_changed_by_a_later_call(self):
        told = console()
        house = told.house("p", 0)
        kept = (house.now, house.knowns, house.worlds())
        for choice in (("go", 0, 9), ("fall", 0), ("leave", 0)):
            told.choose("p", choice)
        told.undo()
        told.drop("p")
        self.assertEqual((house.now, house.knowns, house.worlds()), kept)
        told.undo()
        now = state(told)
        house.go(5)
        house.leave()
        house.fall()
        self.assertEqual(state(told), now)


class TestErrors(Case):
    def test_each_with_its_value_and_its_order(self):
        told = console()
        kept = state(told)
        for name in WRONG_NAMES + (5, None, ("a",), b"a"):
            self.raises(InvalidName, name, told.keep_game, name, ())
            self.raises(InvalidName, name, told.keep_play, name, "none", -1, 0, 9, 9, 0)
            self.raises(InvalidName, name, told.keep_replay, name, "none")
        wrong = changed(GAME, 1, ())
        self.raises(InvalidGame, wrong, told.keep_game, "x", wrong)
        for name in ("x", "", "Not a name", "gg"):
            self.raises(UnknownName, name, told.keep_play, "x", name, -1, 0, 9, 9, 0)
            self.raises(UnknownName, name, told.keep_replay, "x", name)
            for call, more in ((told.choose, (("go", 0, 64),)), (told.other_press, (-1, -1, -1)),
                               (told.cut_to, (-1, -1)), (told.drop, ()), (told.house, (-1,)), (told.sure_of, ()),
                               (told.sought, (-1,)), (told.judged, (0,))):
                self.raises(UnknownName, name, call, name, *more)
        for name in ("p", "r"):
            self.raises(WrongKind, name, told.keep_play, "x", name, -1, 0, 9, 9, 0)
        for name in ("g", "r"):
            self.raises(WrongKind, name, told.keep_replay, "x", name)
            for call, more in ((told.choose, (("go", 0, 64),)), (told.house, (-1,)), (told.sure_of, ()),
                               (told.judged, (0,))):
                self.raises(WrongKind, name, call, name, *more)
        for name in ("g", "p"):
            for call, more in ((told.other_press, (-1, -1, -1)), (told.cut_to, (-1, -1)), (told.sought, (-1,))):
                self.raises(WrongKind, name, call, name, *more)
        self.assertEqual(state(told), kept)

    def test_of_two_names(self):
        told = console()
        self.raises(UnknownName, "x", told.parted, "x", "y")
        self.raises(UnknownName, "y", told.parted, "r", "y")
        self.raises(UnknownName, "y", told.parted, "g", "y")
        self.raises(WrongKind, "g", told.parted, "g", "p")
        self.raises(WrongKind, "p", told.parted, "r", "p")

    def test_those_of_the_functions(self):
        told = console()
        kept = state(told)
        for call, error, value, more in (
                (told.keep_play, InvalidNumber, -1, ("x", "g", -1, 0, 9, 9, 0)),
                (told.keep_play, InvalidNumber, 65537, ("x", "g", 65537, 0, 9, 9, 0)),
                (told.keep_play, InvalidNumber, 3, ("x", "g", 7, 3, 9, 9, 0)),
                (told.keep_play, InvalidNumber, 8, ("x", "g", 7, 2, 8, 9, 0)),
                (told.keep_play, InvalidNumber, 9, ("x", "g", 7, 2, 2, 9, 0)),
                (told.keep_play, InvalidNumber, 0, ("x", "g", 7, 2, 2, 8, 0)),
                (told.choose, InvalidPress, 64, ("p", ("go", 0, 64))), (told.house, InvalidHouse, 3, ("p", 3)),
                (told.other_press, InvalidTick, 2, ("r", 2, 2, 64)),
                (told.other_press, InvalidHouse, 2, ("r", 1, 2, 64)),
                (told.other_press, InvalidPress, 64, ("r", 1, 1, 64)), (told.cut_to, InvalidTick, 3, ("r", 3, 9)),
                (told.cut_to, InvalidTick, 0, ("r", 1, 0)), (told.sought, InvalidTick, -1, ("r", -1))):
            self.raises(error, value, call, *more)
        self.assertEqual(state(told), kept)


class TestUndo(Case):
    def test_back_to_the_beginning_behind_each_kind_of_call(self):
        told = Console()
        states = [state(told)]
        calls = [(told.keep_game, ("g", GAME)), (told.keep_play, ("p", "g", 7, 2, 1, 0, 5)),
                 (told.keep_game, ("g", played_game(1))), (told.keep_game, ("h", GAME))]
        calls += [(told.choose, ("p", choice)) for choice in (
            ("go", 0, 5), ("go", 1, 5), ("go", 2, 5), ("send", 0), ("send", 1), ("double", 0), ("bring", 0),
            ("bring", 2), ("lose", 0), ("lose", 90), ("bring", 0), ("bring", 0), ("fall", 2), ("go", 2, 5),
            ("leave", 0), ("leave", 0), ("send", 0), ("bring", 1))]
        calls += [(told.keep_replay, ("r", "p")), (told.keep_play, ("p", "h", 9, 2, 0, 0, 5)), (told.drop, ("g",)),
                  (told.drop, ("r",))]
        for call, more in calls:
            call(*more)
            states.append(state(told))
            self.assertEqual(len(told), len(states) - 1)
        told.keep_game("r", GAME)
        told.undo()
        for number in range(len(calls), 0, -1):
            self.assertEqual(state(told), states[number])
            self.assertIsNone(told.undo())
        self.assertEqual(state(told), states[0])
        self.raises(NothingToUndo, 0, told.undo)
        self.assertEqual(state(told), states[0])

    def test_replays_come_back(self):
        told = console()
        kept = state(told)
        told.other_press("r", 0, 0, 5)
        other = state(told)
        told.cut_to("r", 1, 2)
        told.undo()
        self.assertEqual(state(told), other)
        told.undo()
        self.assertEqual(state(told), kept)

    def test_a_call_that_raised_is_none_to_take_back(self):
        told = console()
        told.keep_game("h", GAME)
        kept = state(told)
        for call, more in ((told.keep_game, ("1", GAME)), (told.keep_game, ("x", ())),
                           (told.choose, ("g", ("send", 0))), (told.choose, ("p", ("go", 0, 64))), (told.drop, ("x",)),
                           (told.cut_to, ("r", 5, 5)), (told.other_press, ("r", 0, 0, 64)), (told.order, ("x",)),
                           (told.order, ("game x\n",)), (told.keep_play, ("x", "g", 7, 2, 2, 8, 0)),
                           (told.keep_replay, ("x", "g"))):
            with self.assertRaises(GameError):
                call(*more)
            self.assertEqual(state(told), kept)
        told.undo()
        self.assertEqual(told.names(), [("g", "game"), ("p", "play"), ("r", "replay")])

    def test_what_only_asks_is_none_to_take_back(self):
        told = console()
        many = len(told)
        told.house("p", 0)
        told.sure_of("p")
        told.sought("r", 0)
        told.parted("r", "r")
        told.judged("p", 1)
        for text in ("sure p", "house p 0", "seek r 0", "parted r r", "judge p 1", "names"):
            told.order(text)
        self.assertEqual(len(told), many)

    def test_400_calls(self):
        told = Console()
        told.keep_game("g", GAME)
        told.keep_play("p", "g", 7, 2, 0, 0, 5)
        for number in range(398):
            told.choose("p", ("fall", number % 2) if number % 7 else ("go", number % 2, 5))
        self.assertEqual(len(told), 400)
        for _ in range(399):
            told.undo()
        self.assertEqual(told.names(), [("g", "game")])


class TestOrders(Case):
    def test_each_with_its_answer(self):
        told = Console()
        same = Play(GAME, WORLD, 2, 1, 0, 5)
        for text, answer in (("names", "none"), ("game gg\n" + TEXT, "done"), ("play pp gg 7 2 1 0 5", "done"),
                             ("names", "gg game\npp play"), ("sure pp", "0"), ("house pp 2", show_world(WORLD)),
                             ("go pp 0 5", "done"), ("go pp 3 5", "nothing"), ("go pp -1 5", "nothing"),
                             ("go pp 1 63", "done"), ("go pp 2 0", "done"), ("send pp 0", "done"),
                             ("send pp 3", "nothing"), ("send pp 1", "done"), ("double pp 0", "done"),
                             ("double pp 5", "nothing"), ("bring pp 4", "done"), ("lose pp 9", "nothing"),
                             ("lose pp 0", "done"), ("bring pp 0", "done"), ("bring pp 0", "done"),
                             ("bring pp 0", "done"), ("bring pp 0", "nothing"), ("sure pp", "1"), ("judge pp 1", "yes"),
                             ("replay rr pp", "done"), ("replay ss pp", "done"), ("parted rr ss", "none"),
                             ("press rr 0 0 2", "done"), ("parted rr ss", "1"), ("seek ss 0", show_world(WORLD)),
                             ("seek ss 1", show_world(run(GAME, WORLD, ((5, 63),))[1])), ("cut ss 0 0", "done"),
                             ("undo", "done"), ("cut ss 0 1", "done"), ("parted rr ss", "1"), ("cut ss 1 1", "done"),
                             ("seek ss 0", show_world(run(GAME, WORLD, ((5, 63),))[1])), ("undo", "done"),
                             ("seek ss 0", show_world(WORLD)), ("drop ss", "done"),
                             ("names", "gg game\npp play\nrr replay"), ("leave pp 0", "done"),
                             ("leave pp 0", "nothing"), ("leave pp 2", "nothing"), ("fall pp 1", "done"),
                             ("fall pp 7", "nothing"), ("sure pp", "0"), ("drop gg", "done"), ("drop pp", "done"),
                             ("drop rr", "done"), ("names", "none"), ("undo", "done"), ("names", "rr replay")):
            self.assertEqual(told.order(text), answer, text)
        same.choose_all((("go", 0, 5), ("go", 1, 63)))
        told.order("undo")
        for h in range(2):
            self.assertEqual(told.house("pp", h).knowns[h], same.made[h] if h else (same.made[0][0], 1))

    def test_orders_count_as_their_calls(self):
        told = Console()
        for number, text in enumerate(("game gg\n" + TEXT, "play pp gg 7 2 1 0 5", "go pp 0 5", "go pp 9 5",
                                       "replay rr pp", "drop rr"),
                                      start=1):
            told.order(text)
            self.assertEqual(len(told), number)
        for number in range(5, -1, -1):
            self.assertEqual(told.order("undo"), "done")
            self.assertEqual(len(told), number)
        self.raises(NothingToUndo, 0, told.order, "undo")

    def test_house_is_shown_by_its_own_world(self):
        told = console()
        for h in range(3):
            self.assertEqual(told.order(f"house p {h}"), show_world(told.house("p", h).world))
            self.assertEqual(read_world(GAME, told.order(f"house p {h}")), told.house("p", h).world)

    def test_a_judge_that_says_no(self):
        # The paper of a play is right, so it is judged by another judge here.
        with mock.patch("latepresses.consoles.takes", lambda game, paper: False):
            self.assertEqual(console().order("judge p 1"), "no")
            self.assertIs(console().judged("p", 1), False)

    def test_what_is_none(self):
        told = console()
        kept = state(told)
        orders = ("play x g 7 2 1 0 5", "go p 0 5", "send p 0", "bring p 0", "lose p 0", "double p 0", "fall p 0",
                  "leave p 0", "replay x p", "press r 0 0 5", "cut r 0 1", "drop r", "undo", "sure p", "house p 0",
                  "seek r 0", "parted r r", "judge p 1", "names")
        wrong = ["", " ", "\n", "x", "game", "game x", "game ", "game  x\n" + TEXT, "game x y\n" + TEXT,
                 "game x \n" + TEXT, "game 1\n" + TEXT, "game abcdefghi\n" + TEXT, "game \n" + TEXT, "game\n" + TEXT,
                 "Game x\n" + TEXT, " game x\n" + TEXT, "games x\n" + TEXT, "game X\n" + TEXT, "names\n",
                 "names\nnames", "undo\nundo", "go p 0 64", "go p 0 -1", "go p 0 999", "go p 2 64", "keep x"]
        for text in orders:
            words = text.split(" ")
            wrong += [text + " ", " " + text, text + " 0", text + " x", text + "\n", text + "\n" + TEXT, text.upper(),
                      "\t" + text, text + "\r", text.capitalize()]
            if len(words) > 1:
                wrong += [" ".join(words[:-1]), text.replace(" ", "\t", 1), text.replace(" ", "_", 1)]
            for at in range(1, len(words)):
                ahead, behind = " ".join(words[:at]), " ".join(words[at:])
                wrong += [ahead + "  " + behind, ahead + ", " + behind, ahead + behind]
                spoilt = NO_INTEGERS if words[at].isdigit() else WRONG_NAMES
                wrong += [" ".join(words[:at] + [word] + words[at + 1:]) for word in spoilt]
        for text in wrong:
            self.raises(Unorderly, text, told.order, text)
        self.assertEqual(state(told), kept)

    def test_integers_of_nine_digits(self):
        told = console()
        self.assertEqual(told.order("go p 999999999 5"), "nothing")
        self.assertEqual(told.order("go p -999999999 5"), "nothing")
        self.raises(InvalidHouse, 999999999, told.order, "house p 999999999")
        self.raises(InvalidTick, -999999999, told.order, "seek r -999999999")

    def test_errors_of_the_methods(self):
        told = console()
        kept = state(told)
        for text, error, value in (("play x y 7 2 1 0 5", UnknownName, "y"), ("play x p 7 2 1 0 5", WrongKind, "p"),
                                   ("play x g 65537 2 1 0 5", InvalidNumber, 65537),
                                   ("play x g 7 1 1 0 5", InvalidNumber, 1), ("play x g 7 2 3 0 5", InvalidNumber, 3),
                                   ("play x g 7 2 1 9 5", InvalidNumber, 9), ("play x g 7 2 1 0 21", InvalidNumber, 21),
                                   ("go x 0 5", UnknownName, "x"), ("go r 0 5", WrongKind, "r"),
                                   ("send g 0", WrongKind, "g"), ("bring x 0", UnknownName, "x"),
                                   ("lose r 0", WrongKind, "r"), ("double g 0", WrongKind, "g"),
                                   ("fall x 0", UnknownName, "x"), ("leave r 0", WrongKind, "r"),
                                   ("replay x y", UnknownName, "y"), ("replay x g", WrongKind, "g"),
                                   ("press p 0 0 5", WrongKind, "p"), ("press r 2 0 5", InvalidTick, 2),
                                   ("press r 0 2 5", InvalidHouse, 2), ("press r 0 0 64", InvalidPress, 64),
                                   ("cut x 0 0", UnknownName, "x"), ("cut r 0 3", InvalidTick, 3),
                                   ("drop x", UnknownName, "x"), ("sure r", WrongKind, "r"),
                                   ("house p 3", InvalidHouse, 3), ("seek p 0", WrongKind, "p"),
                                   ("seek r 3", InvalidTick, 3), ("parted x y", UnknownName, "x"),
                                   ("parted g r", WrongKind, "g"), ("judge p 0", InvalidNumber, 0),
                                   ("judge g 1", WrongKind, "g")):
            self.raises(error, value, told.order, text)
        self.assertEqual(state(told), kept)

    def test_games_that_are_unreadable(self):
        told = Console()
        lines = TEXT.split("\n")
        self.raises(Unreadable, 1, told.order, "game x\n")
        for number in (1, 2, 5, 9, 16):
            wrong = "\n".join(changed(tuple(lines), number - 1, "x"))
            self.raises(Unreadable, number, told.order, "game x\n" + wrong)
        self.raises(Unreadable, 17, told.order, "game x\n" + "\n".join(lines[:16]))
        self.raises(Unreadable, len(lines) + 1, told.order, "game x\n" + TEXT + "\n")
        self.assertEqual((told.names(), len(told)), ([], 0))


if __name__ == "__main__":
    unittest.main()
