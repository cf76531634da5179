"""What holds for all right games, worlds and presses, and the comparison with another engine."""

import random
import unittest

from samples import after_tick, behind, crowded_game, random_game, random_presses
from slow_engine import SlowDeed

from latepresses.cells import Looks, first_world, is_world, wrong_cell
from latepresses.deeds import all_deeds, done, hears


def games(rng, many):
    for _ in range(many):
        yield random_game(rng)
        yield crowded_game(rng)


class TestAgainstAnotherEngine(unittest.TestCase):
    def test_each_deed_writes_and_looks_as_the_other_engine_does(self):
        rng = random.Random(15)
        for game in games(rng, 25):
            world = first_world(game, rng.randrange(65537))
            for _ in range(4):
                presses = random_presses(rng, game)
                for deed in all_deeds():
                    looks = Looks(world)
                    writes = done(game, presses, deed, looks)
                    slow = SlowDeed(game, world, presses, deed)
                    self.assertEqual(writes, slow.writes, (game, world, presses, deed))
                    self.assertEqual([cell for cell, _ in looks.seen()], sorted(slow.looked), (game, world, deed))
                    world = behind(world, writes)


class TestRightForEver(unittest.TestCase):
    def test_behind_each_tick_the_world_is_right(self):
        rng = random.Random(16)
        for game in games(rng, 25):
            world = first_world(game, rng.randrange(65537))
            for _ in range(8):
                self.assertIsNone(wrong_cell(game, world))
                world = after_tick(game, world, random_presses(rng, game))
            self.assertIs(is_world(game, world), True)


class TestByLooksAlone(unittest.TestCase):
    def test_cells_that_were_not_looked_at_do_not_matter(self):
        rng = random.Random(17)
        for game in games(rng, 12):
            world = after_tick(game, first_world(game, 3), random_presses(rng, game))
            presses = random_presses(rng, game)
            for deed in all_deeds():
                looks = Looks(world)
                writes = done(game, presses, deed, looks)
                seen = dict(looks.seen())
                # Whoever read a cell that it did not look at would meet something that is no cell's value.
                other = Looks(tuple(seen.get(cell, "unseen") for cell in range(len(world))))
                self.assertEqual(done(game, presses, deed, other), writes)
                self.assertEqual(other.seen(), looks.seen())

    def test_presses_that_are_not_heard_do_not_matter(self):
        rng = random.Random(18)
        for game in games(rng, 12):
            world = first_world(game, 3)
            presses = random_presses(rng, game)
            for deed in all_deeds():
                heard = hears(game, deed, world[deed[1]])
                other = tuple(press if house == heard else 63 - press for house, press in enumerate(presses))
                self.assertEqual(done(game, presses, deed, Looks(world)), done(game, other, deed, Looks(world)))


class TestEnds(unittest.TestCase):
    def test_what_a_deed_moves_goes_at_most_eight_units(self):
        rng = random.Random(19)
        for game in games(rng, 15):
            world = first_world(game, 3)
            for _ in range(3):
                presses = random_presses(rng, game)
                for deed in all_deeds():
                    elder = world[deed[1]]
                    world = behind(world, done(game, presses, deed, Looks(world)))
                    newer = world[deed[1]]
                    if deed[0] in (1, 2) and elder is not None:
                        self.assertLessEqual(abs(newer[2] - elder[2]) + abs(newer[3] - elder[3]), 8)
