"""latepresses.houses."""

import random
import unittest

from cases import Case, changed
from samples import crowded_game, first, played_game, random_game, random_rows_of_presses
from slow_houses import SlowHouse

from latepresses.cells import first_world
from latepresses.errors import (Clash, InvalidGame, InvalidHouse, InvalidLetter, InvalidNumber, InvalidPress,
                                InvalidWorld, Left)
from latepresses.houses import House
from latepresses.letters import is_letter
from latepresses.looks import trace
from latepresses.presses import guessed_rows
from latepresses.redone import redone
from latepresses.ticks import last, run

GAME = played_game(2)
WORLD = first(GAME)
NOTHING = ((), None)


def house(who=0, watchers=1, delay=0, lead=5, houses=2):
    game = played_game(houses)
    return House(game, first(game), houses, watchers, who, delay, lead)


def gone(told, presses):
    """The house behind these presses of its own."""
    for press in presses:
        told.go(press)
    return told


def state(told):
    """All that a house tells."""
    return (told.now, told.world, told.sure, told.sure_world, told.knowns, told.lags, told.must_wait(), told.letters(),
            told.worlds())


class TestBegun(Case):
    def test_at_first(self):
        for houses in range(1, 5):
            for watchers in range(3):
                for who in range(houses + watchers):
                    told = house(who, watchers, 0, 1 + who, houses)
                    world = first(played_game(houses))
                    self.assertEqual((told.now, told.world, told.sure, told.sure_world), (0, world, 0, world))
                    self.assertEqual((told.knowns, told.lags), ((NOTHING,) * houses, (0,) * (houses + watchers)))
                    self.assertEqual((told.worlds(), told.must_wait()), ([world], None))

    def test_the_presses_of_the_first_ticks_are_0_and_known_to_all(self):
        for delay in range(9):
            for who in range(3):
                told = house(who, 1, delay)
                row = tuple((tick, 0) for tick in range(delay))
                self.assertEqual(told.knowns, ((row, None),) * 2)
                gone(told, [9] * 4)
                self.assertEqual(told.sure, min(delay, 4))
                self.assertEqual(told.sure_world, last(GAME, WORLD, ((0, 0),) * min(delay, 4)))
                own = row + tuple((tick, 9) for tick in range(delay, delay + 4))
                self.assertEqual(told.knowns, tuple((own if h == who else row, None) for h in range(2)))

    def test_by_name(self):
        told = House(game=GAME, world=WORLD, many=2, watchers=0, who=1, delay=2, lead=3)
        self.assertIs(told.go(press=3), True)
        self.assertEqual(told.hear(letter=(0, 2, (5,), None, (0, 0))), 0)

    def test_it_begins_with_any_right_world(self):
        world = last(GAME, WORLD, ((2, 1), (6, 5), (16, 2)))
        told = House(GAME, world, 2, 0, 0, 0, 9)
        gone(told, (2, 18))
        self.assertEqual(told.world, last(GAME, world, ((2, 0), (18, 0))))

    def test_errors_in_their_order(self):
        wrong = changed(WORLD, 32, -1)
        self.raises(InvalidGame, None, House, None, wrong, 9, 9, 9, 9, 0)
        self.raises(InvalidWorld, 32, House, GAME, wrong, 9, 9, 9, 9, 0)
        self.raises(InvalidWorld, 5, House, GAME, WORLD[:5], 9, 9, 9, 9, 0)
        for many in (-1, 0, 1, 3, 4, 5):
            self.raises(InvalidNumber, many, House, GAME, WORLD, many, 9, 9, 9, 0)
        for watchers in (-1, 3, 9):
            self.raises(InvalidNumber, watchers, House, GAME, WORLD, 2, watchers, 9, 9, 0)
        for watchers in range(3):
            for who in (-1, 2 + watchers, 3 + watchers, 90):
                self.raises(InvalidHouse, who, House, GAME, WORLD, 2, watchers, who, 9, 0)
        for delay in (-1, 9, 50):
            self.raises(InvalidNumber, delay, House, GAME, WORLD, 2, 0, 1, delay, 0)
        for lead in (-1, 0, 21, 50):
            self.raises(InvalidNumber, lead, House, GAME, WORLD, 2, 0, 1, 8, lead)
        for delay, lead in ((0, 1), (8, 20)):
            self.assertEqual(House(GAME, WORLD, 2, 2, 3, delay, lead).now, 0)


class TestGo(Case):
    def test_a_house_makes_presses_and_does_ticks(self):
        told = house()
        rows = ()
        for press in (2, 6, 0, 16):
            self.assertIs(told.go(press), True)
            rows += ((press, 0),)
            self.assertEqual((told.now, told.world), (len(rows), last(GAME, WORLD, rows)))
            self.assertEqual(told.knowns[0], (tuple((tick, row[0]) for tick, row in enumerate(rows)), None))
            self.assertEqual((told.sure, told.sure_world), (0, WORLD))
        self.assertEqual(told.worlds(), run(GAME, WORLD, rows))

    def test_presses_are_made_for_the_tick_behind_the_delay(self):
        told = house(0, 0, 2)
        gone(told, (2, 6, 16))
        self.assertEqual(told.knowns[0], (((0, 0), (1, 0), (2, 2), (3, 6), (4, 16)), None))
        self.assertEqual(told.world, last(GAME, WORLD, ((0, 0), (0, 0), (2, 0))))

    def test_a_watcher_makes_none(self):
        told = house(2)
        gone(told, (9, 9))
        self.assertEqual((told.knowns, told.now), ((NOTHING, NOTHING), 2))
        self.assertEqual(told.world, last(GAME, WORLD, ((0, 0), (0, 0))))

    def test_one_that_has_left_makes_none(self):
        told = gone(house(0, 1, 1), (9, 9))
        told.leave()
        gone(told, (5, 6))
        self.assertEqual((told.now, told.knowns[0]), (4, (((0, 0), (1, 9), (2, 9)), 3)))
        self.assertEqual(told.world, last(GAME, WORLD, ((0, 0), (9, 0), (9, 0), (0, 0))))

    def test_it_guesses_the_greatest_tick_known_below(self):
        told = house()
        told.hear((1, 1, (2,), None, (0, 0)))
        gone(told, (0, 0, 0))
        self.assertEqual(told.world, last(GAME, WORLD, ((0, 0), (0, 2), (0, 2))))

    def test_wrong_presses_raise_whoever_it_is(self):
        left = house()
        left.leave()
        waiting = gone(house(0, 1, 0, 1), (0,) * 5)
        self.assertEqual(waiting.must_wait(), 1)
        for told in (house(), house(2), left, waiting):
            kept = state(told)
            for press in (-1, 64, 900):
                self.raises(InvalidPress, press, told.go, press)
            self.assertEqual(state(told), kept)

    def test_a_house_that_must_wait_does_nothing(self):
        for lead in (1, 2, 20):
            for delay in (0, 3):
                for who in range(3):
                    told = gone(house(who, 1, delay, lead), (7,) * 40)
                    self.assertEqual(told.now, lead + delay)
                    kept = state(told)
                    self.assertIs(told.go(7), False)
                    self.assertEqual(state(told), kept)


class TestMustWait(Case):
    def test_at_its_edge(self):
        told = house(0, 0, 0, 3, 3)
        for now in range(3):
            self.assertEqual((told.now, told.must_wait()), (now, None))
            told.go(1)
        self.assertEqual(told.must_wait(), 1)
        told.hear((1, 0, (5,), None, (0, 0, 0)))
        self.assertEqual(told.must_wait(), 2)
        told.hear((2, 1, (5,), None, (0, 0, 0)))
        self.assertEqual(told.must_wait(), 2)
        told.hear((2, 0, (5, 5, 5), None, (0, 0, 0)))
        self.assertIsNone(told.must_wait())
        told.go(1)
        self.assertEqual(told.must_wait(), 1)

    def test_for_none_that_has_left(self):
        told = gone(house(2, 1, 0, 1), (0,))
        self.assertEqual(told.must_wait(), 0)
        told.hear((0, 0, (), 0, (0, 0)))
        self.assertEqual(told.must_wait(), 1)
        told.hear((1, 0, (4,), 1, (0, 0)))
        self.assertIsNone(told.must_wait())
        gone(told, (0,) * 30)
        self.assertEqual((told.now, told.sure), (31, 31))
        self.assertEqual(told.world, last(GAME, WORLD, ((0, 4),) + ((0, 0),) * 30))

    def test_not_for_itself(self):
        told = gone(house(0, 2, 0, 1, 1), (3,) * 25)
        self.assertEqual((told.now, told.sure, told.must_wait()), (25, 25, None))


class TestHear(Case):
    def test_guesses_that_were_right_are_not_done_again(self):
        told = gone(house(), (2, 2, 2))
        kept = told.world
        self.assertEqual(told.hear((1, 0, (0, 0, 0, 5), None, (1, 0))), 0)
        self.assertEqual((told.world, told.sure, told.knowns[1]),
                         (kept, 3, (((0, 0), (1, 0), (2, 0), (3, 5)), None)))
        told.go(2)
        self.assertEqual(told.world, last(GAME, WORLD, ((2, 0), (2, 0), (2, 0), (2, 5))))

    def test_what_came_otherwise_is_done_anew_as_redone_does(self):
        told = gone(house(0, 0, 0, 20), (2, 6, 2, 18, 1, 33))
        old = trace(GAME, WORLD, guessed_rows(told.knowns, 6))
        again = told.hear((1, 1, (1, 5, 2), None, (0, 0)))
        rows = guessed_rows(told.knowns, 6)
        self.assertEqual(rows, ((2, 0), (6, 1), (2, 5), (18, 2), (1, 2), (33, 2)))
        self.assertEqual(again, len(redone(GAME, WORLD, old, rows)[1]))
        self.assertGreater(again, 5)
        self.assertLess(again, 5 * 80)
        self.assertEqual(told.world, last(GAME, WORLD, rows))
        self.assertEqual((told.sure, told.worlds()), (0, run(GAME, WORLD, rows)))
        self.assertEqual(told.hear((1, 0, (0,), None, (0, 0))), 0)
        self.assertEqual((told.sure, told.worlds()), (4, run(GAME, WORLD, rows)[4:]))

    def test_a_letter_heard_twice_changes_nothing_more(self):
        told = gone(house(), (2, 6, 2))
        letter = (1, 0, (5, 2, 1), None, (1, 0))
        self.assertGreater(told.hear(letter), 0)
        kept = state(told)
        self.assertEqual(told.hear(letter), 0)
        self.assertEqual(state(told), kept)

    def test_in_any_order(self):
        letters = [(1, 0, (5, 2), None, (1, 0)), (1, 2, (6,), None, (1, 0)), (1, 1, (2, 6, 1), 4, (1, 0))]
        ends = []
        for order in ((0, 1, 2), (2, 1, 0), (1, 0, 2), (2, 0, 1)):
            told = gone(house(), (2, 6, 2, 0, 33))
            for at in order:
                told.hear(letters[at])
            ends.append(state(told))
        self.assertEqual(ends, [ends[0]] * 4)
        self.assertEqual(ends[0][1], last(GAME, WORLD, ((2, 5), (6, 2), (2, 6), (0, 1), (33, 0))))

    def test_ends_change_guesses(self):
        told = house()
        told.hear((1, 0, (9,), None, (0, 0)))
        gone(told, (0, 0, 0))
        self.assertGreater(told.hear((1, 1, (9,), 2, (0, 0))), 0)
        self.assertEqual((told.knowns[1], told.sure), ((((0, 9), (1, 9)), 2), 3))
        self.assertEqual(told.world, last(GAME, WORLD, ((0, 9), (0, 9), (0, 0))))

    def test_lags_become_what_was_heard_last_also_less(self):
        told = house(1, 2, 0, 5, 3)
        for sender, heard, lags in ((0, (9, 4, 8), (4, 0, 0, 0, 0)), (2, (1, 2, 3), (4, 0, 2, 0, 0)),
                                    (4, (0, 7, 0), (4, 0, 2, 0, 7)), (3, (5, 0, 5), (4, 0, 2, 0, 7)),
                                    (0, (9, 1, 8), (1, 0, 2, 0, 7)), (4, (0, 0, 0), (1, 0, 2, 0, 0))):
            self.assertEqual(told.hear((sender, 0, (), None, heard)), 0)
            self.assertEqual(told.lags, lags)

    def test_lags_of_watchers_stay_0(self):
        told = house(2)
        told.hear((0, 0, (3,), None, (5, 6)))
        self.assertEqual((told.lags, told.knowns[0]), ((0, 0, 0), (((0, 3),), None)))

    def test_wrong_letters(self):
        for who in range(3):
            told = gone(house(who), (1, 2))
            kept = state(told)
            others = [h for h in range(2) if h != who]
            wrong = [(who, 0, (), None, (0, 0)), (3, 0, (), None, (0, 0)), (9, 0, (), None, (0, 0)), None, ()]
            for h in others:
                wrong += [(h, 0, (), None, heard) for heard in ((), (0,), (0, 0, 0), (0, -1))]
                wrong += [(h, 0, (64,), None, (0, 0)), (h, 2, (), 1, (0, 0)), (h, -1, (), None, (0, 0))]
            if who != 2:
                wrong += [(2, 0, (0,), None, (0, 0)), (2, 0, (), 0, (0, 0)), (2, 0, (), 7, (0, 0)),
                          (2, 0, (), None, (0, 0, 0))]
                told.hear((2, 7, (), None, (0, 0)))
            for letter in wrong:
                self.raises(InvalidLetter, letter, told.hear, letter)
            self.assertEqual(state(told), kept)

    def test_clashes_change_nothing(self):
        told = gone(house(0, 1, 1), (1, 2, 3))
        told.hear((1, 2, (5, 6), 5, (2, 0)))
        kept = state(told)
        for letter, tick in (((1, 2, (4,), None, (9, 9)), 2), ((1, 3, (5,), None, (9, 9)), 3),
                             ((1, 0, (1,), None, (9, 9)), 0), ((1, 2, (1, 1), None, (9, 9)), 2),
                             ((1, 2, (5, 6), 4, (9, 9)), 4), ((1, 0, (), 3, (9, 9)), 3), ((1, 6, (), 6, (9, 9)), 5),
                             ((1, 6, (0, 1), None, (9, 9)), 7)):
            self.raises(Clash, tick, told.hear, letter)
            self.assertEqual(state(told), kept)


class TestLetters(Case):
    def test_of_a_house(self):
        told = gone(house(1, 2, 1, 20, 3), (5, 6, 7))
        row = (0, 5, 6, 7)
        self.assertEqual(told.letters(), tuple((to, (1, 0, row, None, (1, 4, 1))) for to in (0, 2, 3, 4)))
        told.hear((0, 1, (9,), None, (3, 2, 1)))
        told.hear((4, 0, (), None, (0, 4, 0)))
        told.hear((2, 1, (), 1, (0, 0, 0)))
        heard = (2, 4, 1)
        self.assertEqual(told.letters(), ((0, (1, 2, row[2:], None, heard)), (2, (1, 0, row, None, heard)),
                                          (3, (1, 0, row, None, heard)), (4, (1, 4, (), None, heard))))

    def test_of_a_watcher(self):
        told = house(3, 2, 0)
        told.hear((0, 0, (3, 4), None, (0, 0)))
        told.hear((1, 0, (3,), 1, (0, 0)))
        self.assertEqual(told.letters(), tuple((to, (3, 0, (), None, (2, 1))) for to in (0, 1, 2)))

    def test_of_one_that_has_left(self):
        told = gone(house(0, 1, 0), (5, 6))
        told.leave()
        self.assertEqual(told.letters(), tuple((to, (0, 0, (5, 6), 2, (2, 0))) for to in (1, 2)))
        told.hear((1, 0, (), None, (2, 0)))
        self.assertEqual(told.letters()[0], (1, (0, 2, (), 2, (2, 0))))

    def test_of_more_than_32_presses(self):
        told = gone(house(0, 0, 8, 20, 1), range(40))
        self.assertEqual(told.letters(), ())
        told = house(1, 1, 0, 20)
        told.hear((0, 0, (0,) * 32, 32, (0, 0)))
        gone(told, range(40))
        told.leave()
        self.assertEqual(told.letters()[0], (0, (1, 0, tuple(range(32)), None, (32, 40))))
        told.hear((0, 32, (), 32, (0, 8)))
        self.assertEqual(told.letters()[0], (0, (1, 8, tuple(range(8, 40)), 40, (32, 40))))

    def test_lags_beyond_what_is_made(self):
        told = gone(house(), (5,))
        told.hear((1, 0, (), None, (7, 0)))
        self.assertEqual(told.letters()[0], (1, (0, 7, (), None, (1, 0))))
        told.leave()
        self.assertTrue(is_letter(told.letters()[0][1]))

    def test_alone_there_are_none(self):
        self.assertEqual(house(0, 0, 0, 5, 1).letters(), ())


class TestLeaveAndFall(Case):
    def test_leave(self):
        for delay in (0, 3):
            told = gone(house(0, 0, delay), (5, 6))
            self.assertIsNone(told.leave())
            row = ((0, 0), (1, 0), (2, 0))[:delay] + ((delay, 5), (delay + 1, 6))
            self.assertEqual(told.knowns[0], (row, delay + 2))
            kept = state(told)
            self.raises(Left, 0, told.leave)
            self.assertEqual(state(told), kept)

    def test_leave_at_once(self):
        told = house()
        told.leave()
        self.assertEqual(told.knowns, (((), 0), NOTHING))

    def test_a_watcher_can_not_leave(self):
        self.raises(Left, 0, house(2).leave)
        self.raises(Left, 0, house(3, 2).leave)

    def test_fall(self):
        told = gone(house(1, 1, 1), (5, 6))
        told.hear((0, 1, (9, 9), None, (0, 1)))
        self.assertIsNone(told.fall())
        own = (((0, 0), (1, 5), (2, 6)), None)
        self.assertEqual((told.now, told.world, told.knowns, told.lags),
                         (0, WORLD, ((((0, 0),), None), own), (0, 0, 0)))
        self.assertEqual((told.sure, told.worlds()), (0, [WORLD]))
        gone(told, (33, 34))
        self.assertEqual((told.knowns[1], told.now), (own, 2))
        gone(told, (35,))
        self.assertEqual(told.knowns[1], (own[0] + ((3, 35),), None))
        self.assertEqual(told.world, last(GAME, WORLD, ((0, 0), (0, 5), (0, 6))))

    def test_who_left_has_left_behind_a_fall(self):
        told = gone(house(), (5, 6))
        told.leave()
        told.hear((1, 0, (1,), 1, (0, 0)))
        told.fall()
        self.assertEqual(told.knowns, ((((0, 5), (1, 6)), 2), NOTHING))
        gone(told, (7, 7, 7))
        self.assertEqual(told.knowns[0], (((0, 5), (1, 6)), 2))

    def test_a_watcher_forgets_all(self):
        told = house(2, 1, 2)
        told.hear((0, 2, (5,), None, (0, 0)))
        gone(told, (0, 0, 0))
        told.fall()
        self.assertEqual((told.knowns, told.now), (((((0, 0), (1, 0)), None),) * 2, 0))


class TestTwin(Case):
    def test_a_twin_goes_its_own_way(self):
        told = gone(house(0, 2, 1, 7), (5, 6, 7))
        told.hear((1, 1, (9,), None, (2, 1)))
        kept = state(told)
        other = told.twin()
        self.assertEqual(state(other), kept)
        other.go(3)
        other.hear((1, 2, (1,), None, (0, 0)))
        other.leave()
        self.assertEqual(state(told), kept)
        third = told.twin()
        third.fall()
        self.assertEqual(state(told), kept)
        told.go(8)
        self.assertEqual((other.now, third.now, told.now), (4, 0, 4))
        self.assertNotEqual(state(other), state(told))
        for one in (told.twin(), other.twin()):
            gone(one, (0,) * 40)
            self.assertEqual(one.must_wait(), 1)
            self.assertEqual(one.now - 7, len(one.knowns[1][0]))

    def test_a_list_of_worlds_is_new(self):
        told = gone(house(), (1, 2))
        told.worlds().clear()
        self.assertEqual(len(told.worlds()), 3)


class TestAgainstSlowHouses(Case):
    def letter(self, rng, slow, made):
        """A letter of some of what others made, at times of what it knows, or of a watcher."""
        heard = tuple(rng.randrange(9) for _ in range(slow.many))
        sender = rng.choice([h for h in range(slow.all) if h != slow.who])
        if sender >= slow.many:
            return (sender, rng.randrange(9), (), None, heard)
        begin = rng.randrange(12)
        end = rng.randint(begin, 12)
        row = made[sender][begin:end]
        return (sender, begin, row, 12 if end == 12 and rng.random() < 0.3 else None, heard)

    def test_worlds_behind_each_call(self):
        rng = random.Random(112)
        for number in range(8):
            game = (played_game(1 + number % 4), random_game(rng))[number % 2]
            many = game[0][2]
            world = first_world(game, number)
            who = rng.randrange(many + 1)
            told = House(game, world, many, 1, who, number % 3, 6)
            made = tuple(zip(*(((0,) * many,) * (number % 3) + random_rows_of_presses(rng, game, 9))))
            others = [h for h in range(many) if h != who]
            for _ in range(18):
                if others and rng.random() < 0.4:
                    sender, begin = rng.choice(others), rng.randrange(8)
                    told.hear((sender, begin, made[sender][begin:rng.randint(begin, 9)], None, (0,) * many))
                elif rng.random() < 0.08:
                    told.fall()
                else:
                    told.go(rng.randrange(64))
                self.assertEqual(told.world, last(game, world, guessed_rows(told.knowns, told.now)))
                self.assertEqual(told.sure_world, last(game, world, guessed_rows(told.knowns, told.sure)))
                self.assertEqual(told.worlds()[0], told.sure_world)

    def test_houses_by_chance(self):
        rng = random.Random(111)
        for number in range(32):
            game = (played_game(rng.randint(1, 4)), random_game(rng), crowded_game(rng))[min(number % 4, 2)]
            many = game[0][2]
            watchers = rng.randrange(3)
            who = rng.randrange(many + watchers)
            delay = rng.choice((0, 0, 1, 3, 8))
            told = (game, first_world(game, number), many, watchers, who, delay, rng.choice((1, 4, 20)))
            fast, slow = House(*told), SlowHouse(*told)
            rows = ((0,) * many,) * delay + random_rows_of_presses(rng, game, 12 - delay)
            made = tuple(zip(*rows))
            for _ in range(25):
                draw = rng.random()
                press = rng.randrange(64)
                if draw < 0.5:
                    self.assertIs(fast.go(press), slow.go(press))
                elif draw < 0.94 and many + watchers > 1:
                    letter = self.letter(rng, slow, made)
                    self.assertEqual(fast.hear(letter), slow.hear(letter))
                elif draw < 0.97:
                    fast.fall()
                    slow.fall()
                elif slow.leave():
                    fast.leave()
                self.assertEqual((fast.now, fast.sure, fast.knowns, fast.lags, fast.must_wait(), fast.letters()),
                                 (slow.now, slow.sure, slow.knowns, tuple(slow.lags), slow.must_wait(), slow.letters()))
            worlds = slow.worlds()
            self.assertEqual(fast.worlds(), worlds)
            self.assertEqual((fast.sure_world, fast.world), (worlds[0], worlds[-1]))


if __name__ == "__main__":
    unittest.main()
