"""latepresses.plays, and what holds of all plays."""

import random
import unittest

from cases import Case, changed
from samples import crowded_game, first, played_game, random_game
from slow_houses import SlowPlay, random_choice

from latepresses.cells import first_world
from latepresses.errors import InvalidGame, InvalidHouse, InvalidNumber, InvalidPress, InvalidTick, InvalidWorld
from latepresses.letters import is_letter
from latepresses.plays import Play
from latepresses.presses import guessed_rows, known_to, sure_to
from latepresses.ticks import last

GAME = played_game(2)
WORLD = first(GAME)
NOTHING = ((), None)


def play(watchers=1, delay=0, lead=5, houses=2):
    game = played_game(houses)
    return Play(game, first(game), houses, watchers, delay, lead)


def state(told):
    """All that a play tells, but for going on."""
    houses = []
    for h in range(5):
        try:
            one = told.house(h)
        except InvalidHouse:
            break
        houses.append((one.now, one.sure, one.knowns, one.lags, one.worlds(), one.letters()))
    return told.bag, told.made, told.sure_all(), told.bound(), houses


def drawn_play(rng, number, most_houses=4):
    """(game, first world, play, how many of its houses and watchers there are)."""
    game = (played_game(rng.randint(1, most_houses)), random_game(rng), crowded_game(rng))[min(number % 4, 2)]
    many, watchers = game[0][2], rng.randrange(3)
    world = first_world(game, number)
    told = Play(game, world, many, watchers, rng.choice((0, 0, 1, 2, 8)), rng.choice((1, 2, 5, 20)))
    return game, world, told, many + watchers


class TestBegun(Case):
    def test_at_first(self):
        for houses in range(1, 5):
            for watchers in range(3):
                told = play(watchers, 1, 5, houses)
                self.assertEqual((told.bag, told.made, told.sure_all()), ((), ((((0, 0),), None),) * houses, 0))
                self.assertEqual([told.house(h).now for h in range(houses + watchers)], [0] * (houses + watchers))
                for h in (-1, houses + watchers, 99):
                    self.raises(InvalidHouse, h, told.house, h)

    def test_by_name(self):
        told = Play(game=GAME, world=WORLD, many=2, watchers=0, delay=2, lead=3)
        self.assertEqual(told.choose(choice=("go", 0, 5)), 1)
        self.assertEqual(told.choose_all(choices=(("go", 1, 5), ("send", 0))), 2)
        self.assertEqual(told.house(h=1).now, 1)
        self.assertEqual(told.plain_world(tick=0), WORLD)

    def test_errors_in_their_order(self):
        wrong = changed(WORLD, 48, 1000)
        self.raises(InvalidGame, None, Play, None, wrong, 9, 9, 9, 0)
        self.raises(InvalidWorld, 48, Play, GAME, wrong, 9, 9, 9, 0)
        for many in (-1, 0, 1, 3, 9):
            self.raises(InvalidNumber, many, Play, GAME, WORLD, many, 9, 9, 0)
        for watchers in (-1, 3, 9):
            self.raises(InvalidNumber, watchers, Play, GAME, WORLD, 2, watchers, 9, 0)
        for delay in (-1, 9):
            self.raises(InvalidNumber, delay, Play, GAME, WORLD, 2, 2, delay, 0)
        for lead in (-1, 0, 21):
            self.raises(InvalidNumber, lead, Play, GAME, WORLD, 2, 2, 8, lead)


class TestChoose(Case):
    def test_go(self):
        told = play(1, 0, 2)
        self.assertEqual([told.choose(("go", 0, 5)) for _ in range(4)], [1, 1, 0, 0])
        self.assertEqual([told.choose(("go", 2, 63)) for _ in range(4)], [1, 1, 0, 0])
        self.assertEqual((told.made, told.bag), (((((0, 5), (1, 5)), None), NOTHING), ()))
        self.assertEqual([told.house(h).now for h in range(3)], [2, 0, 2])
        self.assertEqual(told.house(0).world, last(GAME, WORLD, ((5, 0), (5, 0))))

    def test_send(self):
        told = play()
        told.choose(("go", 0, 5))
        self.assertEqual(told.choose(("send", 0)), 1)
        self.assertEqual(told.bag, ((1, (0, 0, (5,), None, (1, 0))), (2, (0, 0, (5,), None, (1, 0)))))
        self.assertEqual(told.choose(("send", 2)), 1)
        self.assertEqual(told.bag[2:], ((0, (2, 0, (), None, (0, 0))), (1, (2, 0, (), None, (0, 0)))))
        alone = play(0, 0, 5, 1)
        self.assertEqual((alone.choose(("send", 0)), alone.bag), (1, ()))

    def test_bring_lose_and_double(self):
        told = play()
        told.choose(("go", 0, 5))
        told.choose(("send", 0))
        one, other = told.bag
        self.assertEqual((told.choose(("double", 0)), told.bag), (1, (one, other, one)))
        self.assertEqual((told.choose(("lose", 1)), told.bag), (1, (one, one)))
        self.assertEqual((told.choose(("bring", 1)), told.bag), (1, (one,)))
        self.assertEqual(told.house(1).knowns[0], (((0, 5),), None))
        self.assertEqual(told.house(2).knowns[0], NOTHING)
        self.assertEqual((told.choose(("bring", 0)), told.bag), (1, ()))

    def test_the_one_for_whom_it_is_hears(self):
        told = play()
        told.choose_all((("go", 1, 9), ("go", 0, 0), ("go", 2, 0), ("send", 1)))
        told.choose(("bring", 1))
        self.assertEqual((told.house(0).knowns[1], told.house(2).knowns[1]), (NOTHING, (((0, 9),), None)))
        self.assertEqual(told.house(2).world, last(GAME, WORLD, ((0, 9),)))

    def test_fall_and_leave(self):
        told = play()
        told.choose_all((("go", 0, 5), ("go", 2, 5), ("leave", 0)))
        self.assertEqual(told.made, ((((0, 5),), 1), NOTHING))
        self.assertEqual((told.choose(("leave", 0)), told.choose(("leave", 2))), (0, 0))
        for h in (0, 2, 1, 1):
            self.assertEqual((told.choose(("fall", h)), told.house(h).now), (1, 0))
        self.assertEqual(told.made, ((((0, 5),), 1), NOTHING))
        self.assertEqual(told.choose(("leave", 1)), 1)
        self.assertEqual(told.made[1], ((), 0))

    def test_what_there_is_not_does_nothing(self):
        told = play()
        told.choose_all((("go", 0, 5), ("send", 0), ("send", 1)))
        kept = state(told)
        for h in (-1, -3, 3, 4, 50):
            for choice in (("go", h, 5), ("send", h), ("fall", h), ("leave", h)):
                self.assertEqual(told.choose(choice), 0)
        for k in (-1, -4, 4, 5, 50):
            for name in ("bring", "lose", "double"):
                self.assertEqual(told.choose((name, k)), 0)
        self.assertEqual(state(told), kept)
        for name in ("bring", "lose", "double"):
            self.assertEqual(play().choose((name, 0)), 0)

    def test_a_press_that_is_none_changes_nothing(self):
        told = play()
        kept = state(told)
        self.raises(InvalidPress, 64, told.choose, ("go", 0, 64))
        self.assertEqual(state(told), kept)

    def test_choose_all(self):
        told = play()
        self.assertEqual(told.choose_all((("go", 0, 5), ("go", 9, 5), ("bring", 0), ("send", 0), ("bring", 0))), 3)
        self.assertEqual(told.choose_all(()), 0)
        self.assertEqual(told.house(1).knowns[0], (((0, 5),), None))

    def test_a_house_is_a_twin(self):
        told = play()
        one = told.house(0)
        one.go(9)
        one.leave()
        self.assertEqual((told.house(0).now, told.made), (0, (NOTHING, NOTHING)))
        told.choose(("go", 0, 3))
        self.assertEqual((one.now, one.knowns[0][0]), (1, ((0, 9),)))


class TestPlain(Case):
    def test_plain_world(self):
        told = play(0, 1)
        told.choose_all((("go", 0, 5), ("go", 0, 6), ("go", 1, 33)))
        rows = ((0, 0), (5, 33))
        for tick in range(3):
            self.assertEqual(told.plain_world(tick), last(GAME, WORLD, rows[:tick]))
        for tick in (-1, -2, 3, 4, 90):
            self.raises(InvalidTick, tick, told.plain_world, tick)
        told.choose(("leave", 1))
        self.assertEqual(told.plain_world(3), last(GAME, WORLD, rows + ((6, 0),)))
        self.raises(InvalidTick, 4, told.plain_world, 4)
        told.choose(("leave", 0))
        self.assertEqual(told.plain_world(20), last(GAME, WORLD, rows + ((6, 0),) + ((0, 0),) * 17))

    def test_sure_all_and_bound(self):
        told = play(1, 2, 9)
        self.assertEqual((told.sure_all(), told.bound()), (0, 40 * 3 * 3 * 2))
        told.choose_all([("go", h, 1) for h in (0, 1, 2, 0, 1, 2, 0, 1, 0)])
        self.assertEqual([told.house(h).now for h in range(3)], [4, 3, 2])
        self.assertEqual((told.sure_all(), told.bound()), (2, 40 * 3 * 3 * 6))
        told.choose_all((("go", 2, 1), ("fall", 0)))
        self.assertEqual((told.sure_all(), told.bound()), (0, 40 * 3 * 3 * 5))
        self.assertEqual(play(0, 0, 5, 1).bound(), 80)
        self.assertEqual(play(2, 0, 5, 4).bound(), 40 * 6 * 6 * 2)

    def test_twin(self):
        told = play()
        told.choose_all((("go", 0, 5), ("send", 0), ("bring", 0), ("go", 1, 5)))
        kept = state(told)
        other = told.twin()
        self.assertEqual(state(other), kept)
        other.choose_all((("bring", 0), ("go", 0, 1), ("fall", 1), ("leave", 0), ("send", 2)))
        self.assertEqual(state(told), kept)
        self.assertNotEqual(state(other), kept)
        kept = state(other)
        told.choose_all((("lose", 0), ("go", 1, 2)))
        self.assertEqual(state(other), kept)


def slow_going_on(told):
    """The choices of going on, as the document tells them, done on the play itself."""
    many = len(state(told)[4])
    end = max(told.house(h).now for h in range(many))
    choices = []

    def choose(choice):
        choices.append(choice)
        assert told.choose(choice) == 1
    while min(told.house(h).sure for h in range(many)) < end:
        elder = len(told.bag)
        for h in range(many):
            choose(("send", h))
        while len(told.bag) > elder:
            choose(("bring", elder))
        for h in range(many):
            if told.house(h).now < end and told.house(h).must_wait() is None:
                choose(("go", h, 0))
    return tuple(choices)


class TestGoingOn(Case):
    def test_by_hand(self):
        told = play(0, 0, 1)
        told.choose_all((("go", 0, 5), ("send", 0)))
        self.assertEqual(told.going_on(), (("send", 0), ("send", 1), ("bring", 1), ("bring", 1), ("go", 1, 0),
                                           ("send", 0), ("send", 1), ("bring", 1), ("bring", 1)))
        self.assertEqual(play(2).going_on(), ())

    def test_alone(self):
        told = play(0, 0, 1, 1)
        told.choose(("go", 0, 5))
        self.assertEqual(told.going_on(), ())

    def test_by_chance(self):
        rng = random.Random(121)
        falls = 0
        for number in range(24):
            _, _, told, many = drawn_play(rng, number)
            for _ in range(rng.randrange(120)):
                choice = random_choice(rng, many, len(told.bag))
                told.choose(choice)
                falls += choice[0] == "fall"
            kept = state(told)
            choices = told.going_on()
            self.assertEqual(state(told), kept)
            bag, _, _, bound, houses = kept
            end = max(told.house(h).now for h in range(many))
            self.assertLessEqual(len(choices), bound)
            self.assertEqual(slow_going_on(told.twin()), choices)
            self.assertEqual(told.choose_all(choices), len(choices))
            self.assertGreaterEqual(told.sure_all(), end)
            self.assertEqual((told.bag, told.going_on()), (bag, ()))
        self.assertGreater(falls, 15)

    def test_it_goes_on_whatever_can_be_made_of_it(self):
        # Everyone falls ahead of any letter, and everyone's presses are known to nobody else.
        for delay, lead in ((0, 1), (0, 20), (8, 1)):
            told = play(2, delay, lead, 3)
            told.choose_all([("go", h, 7) for h in range(5)] * 30)
            told.choose_all([("fall", h) for h in range(3)] + [("leave", 1)])
            end = max(told.house(h).now for h in range(5))
            self.assertEqual(end, lead + delay)
            self.assertLessEqual(told.choose_all(told.going_on()), told.bound())
            self.assertEqual(told.sure_all(), end)


class TestGuarantees(Case):
    def agree(self, game, world, told, many):
        for h in range(many):
            one = told.house(h)
            self.assertEqual(one.sure_world, told.plain_world(one.sure))
            self.assertEqual(one.world, last(game, world, guessed_rows(one.knowns, one.now)))
            self.assertEqual(one.worlds()[0], one.sure_world)
            end = sure_to(one.knowns)
            self.assertEqual(one.sure, one.now if end is None else min(end, one.now))
            for known, made in zip(one.knowns, told.made):
                self.assertTrue(set(known[0]) <= set(made[0]))
                self.assertIn(known[1], (None, made[1]))
            waited = one.must_wait()
            self.assertTrue(waited is None or known_to(one.knowns[waited]) is not None)
            for to, letter in one.letters():
                self.assertTrue(is_letter(letter))
                self.assertNotEqual(to, h)

    def test_each_sure_world_is_the_plain_engines(self):
        rng = random.Random(122)
        for number in range(14):
            game, world, told, many = drawn_play(rng, number)
            sure = {}
            for _ in range(8):
                for _ in range(20):
                    choice = random_choice(rng, many, len(told.bag))
                    told.choose(choice)
                    if choice[0] == "fall":
                        sure.pop(choice[1], None)
                self.agree(game, world, told, many)
                for h in range(many):
                    # What is sure stays sure, but for who falls.
                    self.assertGreaterEqual(told.house(h).sure, sure.get(h, 0))
                    sure[h] = told.house(h).sure

    def test_plays_are_as_slow_ones(self):
        rng = random.Random(123)
        for number in range(12):
            game, world, _, _ = drawn_play(rng, number, 3)
            many, watchers = game[0][2], rng.randrange(3)
            settings = (game, world, many, watchers, rng.choice((0, 0, 1, 8)), rng.choice((1, 3, 20)))
            fast, slow = Play(*settings), SlowPlay(*settings)
            for _ in range(100):
                choice = random_choice(rng, many + watchers, len(fast.bag))
                self.assertEqual(fast.choose(choice), slow.choose(choice), choice)
                self.assertEqual(fast.bag, tuple(slow.bag))
                self.assertEqual(fast.made, tuple(house.knowns[house.who] for house in slow.houses[:many]))
            for h, house in enumerate(slow.houses):
                one = fast.house(h)
                self.assertEqual((one.now, one.sure, one.knowns, one.lags, one.must_wait(), one.worlds()),
                                 (house.now, house.sure, house.knowns, tuple(house.lags), house.must_wait(),
                                  house.worlds()))


if __name__ == "__main__":
    unittest.main()
