"""latepresses.judge."""

import random
import unittest

from cases import Case, changed
from samples import first, played_game, random_rows_of_presses
from slow_houses import random_choice

from latepresses.cells import Looks, unlike
from latepresses.errors import InvalidGame, InvalidPaper, InvalidPress, InvalidWorld
from latepresses.houses import House
from latepresses.judge import agrees, first_wrong, takes
from latepresses.papers import paper_of
from latepresses.plays import Play
from latepresses.sums import thing_sum
from latepresses.ticks import run

GAME = played_game(2)
WORLD = first(GAME)
ROWS = ((2, 1), (6, 5), (18, 2), (0, 33), (33, 4))
WORLDS = run(GAME, WORLD, ROWS)
MARKS = tuple((tick, thing_sum(WORLDS[tick])) for tick in (0, 2, 3, 5))
PAPER = (WORLD, ROWS, MARKS)


def sure_house(rows, ahead=0):
    """A house, of those of this game, that is sure of these ticks, and did some more."""
    house = House(GAME, WORLD, 2, 0, 0, 0, 20)
    for own, _ in rows:
        house.go(own)
    house.hear((1, 0, tuple(press for _, press in rows), None, (0, 0)))
    for _ in range(ahead):
        house.go(63)
    return house


class TestFirstWrong(Case):
    def test_right_papers(self):
        for paper in (PAPER, (WORLD, ROWS, ()), (WORLD, (), ()), (WORLD, (), MARKS[:1]), (WORLD, ROWS[:3], MARKS[:3]),
                      (WORLDS[2], ROWS[2:], ((0, MARKS[1][1]), (1, MARKS[2][1])))):
            self.assertIsNone(first_wrong(GAME, paper))
            self.assertIs(takes(GAME, paper), True)
        self.assertIsNone(first_wrong(game=GAME, paper=PAPER))
        self.assertIs(takes(game=GAME, paper=PAPER), True)

    def test_other_sums(self):
        for at, (tick, told) in enumerate(MARKS):
            for wrong in (told + 1, told - 1, 0, -told, told + 2305843009213693951):
                paper = (WORLD, ROWS, changed(MARKS, at, (tick, wrong)))
                self.assertEqual(first_wrong(GAME, paper), tick)
                self.assertIs(takes(GAME, paper), False)
        paper = (WORLD, ROWS, changed(changed(MARKS, 1, (2, 5)), 3, (5, 5)))
        self.assertEqual(first_wrong(GAME, paper), 2)
        self.assertEqual(first_wrong(GAME, (WORLD, ROWS, ((1, MARKS[1][1]),))), 1)

    def test_another_press(self):
        # Presses change what comes behind them alone.
        for tick, marked in ((0, 2), (1, 2), (2, 3), (3, 5), (4, 5)):
            paper = (WORLD, changed(ROWS, tick, (32, 32)), MARKS)
            self.assertEqual(first_wrong(GAME, paper), marked)
            self.assertIs(takes(GAME, paper), False)

    def test_another_world(self):
        for cell, value in ((32, 8), (33, 1), (48, -1), (0, changed(WORLD[0], 7, (0, 0, 0, 1))),
                            (2, changed(WORLD[2], 6, 5))):
            paper = (changed(WORLD, cell, value), ROWS, MARKS)
            self.assertEqual(first_wrong(GAME, paper), 0)
        paper = (changed(WORLD, 40, 9), ROWS, MARKS[1:])
        self.assertEqual(first_wrong(GAME, paper), 2)

    def test_papers_of_plays_are_taken(self):
        rng = random.Random(151)
        for seed in range(6):
            game = played_game(1 + seed % 4)
            many = game[0][2]
            play = Play(game, first(game, seed), many, 1, seed, 5)
            for _ in range(150):
                play.choose(random_choice(rng, many + 1, len(play.bag)))
            paper = paper_of(play, 2)
            self.assertIs(takes(game, paper), True)
            wrong = changed(paper[2], len(paper[2]) - 1, (paper[2][-1][0], 7))
            self.assertEqual(first_wrong(game, (paper[0], paper[1], wrong)), paper[2][-1][0])

    def test_errors_in_their_order(self):
        house = sure_house(ROWS)

        def raises(error, value, game, paper):
            self.raises(error, value, first_wrong, game, paper)
            self.raises(error, value, takes, game, paper)
            self.raises(error, value, agrees, game, paper, house)
        wrong_world = changed(WORLD, 33, 1000)
        raises(InvalidGame, (), (), ())
        for paper in ((), (WORLD, ROWS), (WORLD, ((64, 0),), ()), (WORLD, ROWS, ((6, 1),)), (WORLD, ((1,), (1, 1)), ()),
                      (wrong_world, ROWS, ((2, 0), (1, 0)))):
            raises(InvalidPaper, paper, GAME, paper)
        raises(InvalidWorld, 33, GAME, (wrong_world, ((1,),), MARKS[:1]))
        raises(InvalidWorld, 0, GAME, ((), ROWS, MARKS))
        raises(InvalidPress, (1,), GAME, (WORLD, ((1,),), MARKS[:1]))
        raises(InvalidPress, (1, 2, 3), GAME, (WORLD, ((1, 2, 3),) * 3, ()))


class TestAgrees(Case):
    def test_sure_below_at_and_above_the_number_of_rows(self):
        for sure in range(8):
            rows = (ROWS + ((1, 1), (2, 2)))[:sure]
            for ahead in (0, 3):
                house = sure_house(rows, ahead)
                self.assertEqual(house.sure, sure)
                self.assertIsNone(agrees(GAME, PAPER, house))
        self.assertIsNone(agrees(game=GAME, paper=PAPER, house=sure_house(ROWS[:2])))

    def test_a_house_that_is_sure_of_something_else(self):
        for sure in range(1, 8):
            rows = (((2, 1), (32, 5), (18, 2), (0, 33), (33, 4)) + ((1, 1), (2, 2)))[:sure]
            house = sure_house(rows)
            if sure in (1, 6, 7):
                self.assertIsNone(agrees(GAME, PAPER, house))
            else:
                cell = unlike(WORLDS[sure], house.sure_world)[0]
                self.assertEqual(agrees(GAME, PAPER, house), (sure, cell))

    def test_sums_do_not_matter_to_it(self):
        self.assertIsNone(agrees(GAME, (WORLD, ROWS, ((0, 1), (5, 1))), sure_house(ROWS)))

    def test_a_house_that_began_otherwise(self):
        house = House(GAME, changed(WORLD, 45, 6), 2, 0, 1, 0, 5)
        self.assertEqual(agrees(GAME, PAPER, house), (0, 45))
        self.assertEqual(agrees(GAME, (WORLD, (), ()), house), (0, 45))

    def test_the_house_stays_as_it_is(self):
        house = sure_house(ROWS, 2)
        kept = house.worlds()
        agrees(GAME, PAPER, house)
        self.assertEqual((house.worlds(), house.now), (kept, 7))


if __name__ == "__main__":
    unittest.main()
