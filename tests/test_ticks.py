"""latepresses.ticks."""

import random
import unittest

from cases import Case, changed, slow_tick
from samples import after_tick, crowded_game, first, played_game, random_game, random_rows_of_presses

from latepresses.cells import first_world, with_thing, wrong_cell
from latepresses.errors import InvalidGame, InvalidNumber, InvalidPress, InvalidWorld
from latepresses.levels import is_game
from latepresses.ticks import last, run, settled, tick

GAME = played_game(2)
WORLD = first_world(GAME, 5)
WRONG_GAME = (GAME[0], ())
WRONG_WORLD = changed(WORLD, 32, 65537)
ROWS = ((0, 0), (2, 1), (18, 4))


def falling_game(high):
    """One crate that falls so many rows."""
    crate = ("crate", 8, 8, ("bars", "falls"), (0, 0, 0, 0), ())
    return ((("....",) * (high + 1) + ("####",), ((0, -1, 8, 0),), 1, 1), (crate,))


class TestTicks(Case):
    def games(self, rng):
        yield played_game(1)
        yield played_game(3)
        for _ in range(6):
            yield random_game(rng)
            yield crowded_game(rng)

    def test_the_game_that_is_played_is_right_and_much_happens(self):
        for houses in range(1, 5):
            self.assertTrue(is_game(played_game(houses)))
        rng = random.Random(1)
        worlds = run(GAME, WORLD, random_rows_of_presses(rng, GAME, 40))
        things = [thing for world in worlds for thing in world[:16] if thing is not None]
        self.assertEqual({thing[0] for thing in things}, {0, 1, 2, 3, 4})
        self.assertTrue(any(world[16 + slot] for world in worlds for slot in range(16)))
        self.assertTrue(any(thing[6] > -1 for thing in things))
        self.assertTrue(len({world[33] for world in worlds}) > 5 and len({world[34] for world in worlds}) > 1)
        self.assertTrue(any(one[slot] is not None and other[slot] is None
                            for one, other in zip(worlds, worlds[1:]) for slot in range(16)))

    def test_a_tick_is_the_80_deeds_one_behind_the_other(self):
        rng = random.Random(21)
        for game in self.games(rng):
            world = first(game)
            for presses in random_rows_of_presses(rng, game, 5):
                behind = tick(game, world, presses)
                self.assertEqual(behind, after_tick(game, world, presses))
                world = behind
            self.assertEqual(tick(game, world, presses), slow_tick(game, world, presses))

    def test_run_and_last_of_none_one_and_several_ticks(self):
        rng = random.Random(22)
        for game in self.games(rng):
            for many in (0, 1, 2, 5):
                rows = random_rows_of_presses(rng, game, many)
                worlds = [first(game)]
                for presses in rows:
                    worlds.append(after_tick(game, worlds[-1], presses))
                self.assertEqual(run(game, worlds[0], rows), worlds)
                self.assertEqual(last(game, worlds[0], rows), worlds[-1])

    def test_a_run_of_no_rows_is_the_world_alone(self):
        self.assertEqual(run(GAME, WORLD, ()), [WORLD])
        self.assertEqual(last(GAME, WORLD, ()), WORLD)

    def test_what_is_told_is_new(self):
        one, other = run(GAME, WORLD, ROWS), run(GAME, WORLD, ROWS)
        self.assertEqual((type(one), one == other, one is other), (list, True, False))
        one.clear()
        self.assertEqual(run(GAME, WORLD, ROWS), other)

    def test_the_same_run_in_two_parts(self):
        rows = random_rows_of_presses(random.Random(23), GAME, 12)
        worlds = run(GAME, WORLD, rows)
        for many in range(13):
            self.assertEqual(run(GAME, worlds[many], rows[many:]), worlds[many:])

    def test_each_press_counts_for_its_house_alone(self):
        one, other = tick(GAME, WORLD, (0, 32)), tick(GAME, WORLD, (32, 0))
        # Two heroes are of the house 1, one of the house 0.
        self.assertEqual((one[33], other[33], tick(GAME, WORLD, (32, 32))[33]), (2, 1, 3))

    def test_by_name(self):
        self.assertEqual(tick(game=GAME, world=WORLD, presses=(1, 2)), tick(GAME, WORLD, (1, 2)))
        self.assertEqual(run(game=GAME, world=WORLD, rows=ROWS), run(GAME, WORLD, ROWS))
        self.assertEqual(last(game=GAME, world=WORLD, rows=ROWS), last(GAME, WORLD, ROWS))
        self.assertEqual(settled(game=GAME, world=WORLD, most=3), None)


class TestRightForEver(Case):
    def test_behind_each_of_120_ticks_the_world_is_right(self):
        rng = random.Random(24)
        for game in (played_game(2), played_game(4), crowded_game(rng), random_game(rng), random_game(rng)):
            world = first(game)
            for behind in run(game, world, random_rows_of_presses(rng, game, 120)):
                self.assertIsNone(wrong_cell(game, behind))

    def test_from_right_worlds_in_which_things_stand_anyhow(self):
        rng = random.Random(25)
        for _ in range(10):
            game = random_game(rng)
            world = first(game)
            for slot in range(16):
                told = (rng.randrange(len(game[1])), rng.randrange(-1, game[0][2]), rng.randint(0, 60),
                        rng.randint(0, 60), rng.randint(-7, 7), rng.randint(-7, 7), rng.randint(-2, 15), (1, 2, 3, 4))
                other = with_thing(game, world, slot, told)
                if wrong_cell(game, other) is None:
                    world = other
            for behind in run(game, world, random_rows_of_presses(rng, game, 6)):
                self.assertIsNone(wrong_cell(game, behind))


class TestSettled(Case):
    def due(self, game, world):
        worlds = run(game, world, ((0,) * game[0][2],) * 120)
        alike = [one == other for one, other in zip(worlds, worlds[1:])]
        return alike.index(True) if True in alike else None

    def test_at_the_due_number_one_less_and_one_more(self):
        for high in (1, 2, 5, 12):
            game = falling_game(high)
            world = first(game)
            due = self.due(game, world)
            self.assertGreater(due, 0)
            for most, told in ((due - 1, None), (due, due), (due + 1, due), (120, due), (0, None)):
                self.assertEqual(settled(game, world, most), told, (high, most))

    def test_a_settled_world(self):
        game = falling_game(3)
        world = run(game, first(game), ((0,),) * 60)[-1]
        for most in (0, 1, 7):
            self.assertEqual(settled(game, world, most), 0)

    def test_one_that_never_settles(self):
        for most in (0, 1, 60):
            self.assertIsNone(settled(GAME, WORLD, most))

    def test_without_presses(self):
        for key in range(6):
            rules = (("when", ("held", key), (("mark", 0, ("sum", ("mark", 0), ("number", 1))),), ()),)
            game = ((("....",) * 3, ((0, 0, 0, 0),), 1, 0), (("dot", 4, 4, (), (0, 0, 0, 0), rules),))
            self.assertEqual(settled(game, first(game), 4), 0)
            self.assertEqual(tick(game, first(game), (2 ** key,))[33], 1)

    def test_a_change_of_one_cell_is_a_change(self):
        rules = (("mark", 15, ("least", ("number", 3), ("sum", ("mark", 15), ("number", 1)))),)
        game = ((("....",) * 3, ((0, -1, 0, 0),), 1, 0), (("dot", 4, 4, (), (0, 0, 0, 0), rules),))
        self.assertEqual([settled(game, first(game), most) for most in (2, 3, 4)], [None, 3, 3])

    def test_random_worlds(self):
        rng = random.Random(26)
        for _ in range(12):
            game = random_game(rng)
            world = first(game)
            due = self.due(game, world)
            self.assertEqual(settled(game, world, 119), due)


class TestErrors(Case):
    def test_a_wrong_game_comes_first(self):
        for call, told in ((tick, (64, 0)), (run, ((64, 0),)), (last, ((64, 0),)), (settled, -1)):
            for wrong in (WRONG_GAME, (changed(GAME[0], 2, 5), GAME[1])):
                self.raises(InvalidGame, wrong, call, wrong, WRONG_WORLD, told)

    def test_then_a_wrong_world_with_its_cell(self):
        for call, told in ((tick, (64, 0)), (run, ((64, 0),)), (last, ((64, 0),)), (settled, -1)):
            for cell, value in ((0, (9, 0, 0, 0, 0, 0, 0, (0,) * 4)), (15, 3), (16, (0,)), (32, -1), (48, 1000),
                                (49, (5,))):
                self.raises(InvalidWorld, cell, call, GAME, changed(WORLD, cell, value), told)
            self.raises(InvalidWorld, len(WORLD) - 1, call, GAME, WORLD[:-1], told)
            self.raises(InvalidWorld, len(WORLD), call, GAME, WORLD + ((),), told)
        self.raises(InvalidWorld, 3, tick, GAME, changed(changed(WORLD, 40, 5000), 3, WORLD[0]), (0, 0))

    def test_wrong_presses(self):
        for wrong in ((), (0,), (0, 0, 0), (64, 0), (0, 64), (-1, 0), (0, -1)):
            self.raises(InvalidPress, wrong, tick, GAME, WORLD, wrong)
            for rows in ((wrong,), (wrong, (0, 0)), ((0, 0), wrong), ((0, 0), wrong, (99, 99)), ((63, 0), wrong, ())):
                self.raises(InvalidPress, wrong, run, GAME, WORLD, rows)
                self.raises(InvalidPress, wrong, last, GAME, WORLD, rows)
        self.assertEqual(len(run(GAME, WORLD, ((63, 63),))), 2)

    def test_most_below_0(self):
        game = falling_game(1)
        settled_world = last(game, first(game), ((0,),) * 20)
        for world in (first(game), settled_world):
            self.raises(InvalidNumber, -1, settled, game, world, -1)
            self.raises(InvalidNumber, -7, settled, game, world, -7)


if __name__ == "__main__":
    unittest.main()
