"""latepresses.papers."""

import random
import unittest

from cases import Case
from samples import first, played_game

from latepresses.errors import InvalidNumber
from latepresses.papers import is_paper, paper_of
from latepresses.plays import Play
from latepresses.sums import thing_sum
from latepresses.ticks import run
from slow_houses import random_choice

WORLD = first(played_game(2))
RIGHT = (WORLD, ((0, 1), (2, 63), (5, 6)), ((0, 5), (2, -7), (3, 10 ** 30)))


def played(houses, seed, many):
    """A play, of two watchers, behind some choices by chance."""
    rng = random.Random(seed)
    game = played_game(houses)
    play = Play(game, first(game, seed), houses, 2, 1, 4)
    for _ in range(many):
        play.choose(random_choice(rng, houses + 2, len(play.bag)))
    return game, play


class TestPaperOf(Case):
    def test_sums_at_0_at_each_multiple_and_at_the_end(self):
        for seed in (1, 2, 3):
            game, play = played(2, seed, 200)
            play.choose_all(play.going_on())
            end = play.sure_all()
            self.assertGreater(end, 3)
            for every in (1, 2, 3, end - 1, end, end + 1, 500):
                world, rows, marks = paper_of(play, every)
                worlds = run(game, first(game, seed), rows)
                self.assertEqual((world, len(rows)), (first(game, seed), end))
                ticks = sorted({0, end} | set(range(0, end, every)))
                self.assertEqual(marks, tuple((tick, thing_sum(worlds[tick])) for tick in ticks))
                self.assertIs(is_paper((world, rows, marks)), True)
            self.assertEqual(tuple(zip(*rows)), tuple(tuple(
                dict(row).get(tick, 0) for tick in range(end)) for row, _ in play.made))

    def test_just_the_ticks_to_which_all_are_sure(self):
        game, play = played(2, 4, 90)
        self.assertLess(play.sure_all(), min(play.house(h).now for h in range(4)))
        self.assertEqual(len(paper_of(play, 2)[1]), play.sure_all())

    def test_of_no_ticks(self):
        game = played_game(1)
        world = first(game)
        play = Play(game, world, 1, 1, 0, 5)
        play.choose(("go", 0, 9))
        for every in (1, 7):
            self.assertEqual(paper_of(play=play, every=every), (world, (), ((0, thing_sum(world)),)))

    def test_every_below_1(self):
        for every in (0, -1, -9):
            self.raises(InvalidNumber, every, paper_of, played(1, 1, 0)[1], every)


class TestIsPaper(Case):
    def test_right_ones(self):
        for told in (RIGHT, (WORLD, (), ()), (WORLD, (), ((0, 1),)), ((), (), ()), (WORLD, ((0, 1, 2, 3),), ()),
                     (WORLD, ((0,), (63,)), ((1, 0),)), ((None, ()), ((9, 9, 9),) * 120, ((120, 1),))):
            self.assertIs(is_paper(told), True, told)
        self.assertIs(is_paper(told=RIGHT), True)

    def test_rows_of_one_length_of_1_to_4(self):
        for one in range(7):
            for other in range(7):
                told = (WORLD, ((0,) * one, (1,) * one, (0,) * other), ())
                self.assertIs(is_paper(told), one == other and 1 <= one <= 4)

    def test_presses_from_0_to_63(self):
        for press in range(-2, 67):
            self.assertIs(is_paper((WORLD, ((0, 0), (0, press)), ())), 0 <= press <= 63)

    def test_ticks_ascend_from_0_to_the_number_of_rows(self):
        for one in range(-2, 5):
            for other in range(-2, 5):
                told = (WORLD, ((0,), (0,)), ((one, 1), (other, 1)))
                self.assertIs(is_paper(told), 0 <= one < other <= 2, told)
        self.assertIs(is_paper((WORLD, (), ((1, 1),))), False)

    def test_sums_of_any_size(self):
        for number in (0, -1, 10 ** 40, -10 ** 40):
            self.assertIs(is_paper((WORLD, (), ((0, number),))), True)

    def test_other_forms(self):
        for wrong in ((), None, 3, RIGHT[:2], RIGHT + ((),), list(RIGHT), (None, (), ()), (WORLD, None, ()),
                      (WORLD, (), None), (WORLD, [], ()), (WORLD, (), []), (WORLD, (0,), ()), (WORLD, ([0],), ()),
                      (WORLD, ((None,),), ()), (WORLD, ((True,),), ()), (WORLD, (), (0,)), (WORLD, (), ((0,),)),
                      (WORLD, (), ((0, 1, 2),)), (WORLD, (), ((None, 1),)), (WORLD, (), ((0, None),)),
                      (WORLD, (), ([0, 1],)), (WORLD, (), ((0, True),)), (WORLD, (), ((False, 1),))):
            self.assertIs(is_paper(wrong), False, wrong)


if __name__ == "__main__":
    unittest.main()
