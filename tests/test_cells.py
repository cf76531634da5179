"""latepresses.cells."""

import random
import unittest

from samples import crowded_game, random_game

from latepresses.cells import (Looks, bucket_cells, cells_of, first_world, is_world, kind_of_cell, unlike, with_thing,
                               wrong_cell)
from latepresses.errors import InvalidCell, InvalidGame, InvalidNumber, InvalidPair, InvalidSlot, InvalidThing
from latepresses.things import box_of

# 9 by 6 squares: 72 by 48 units, so blocks of 32, 32 and 8 by 32 and 16 units: buckets 49 to 54.
ROWS = (".........", ".........", ".........", "....#....", "..=......", "##..#...#")
BOX = ("box", 8, 8, ("bars", "falls", "pushed"), (1, 2, 3, 4), ())
GHOST = ("ghost", 4, 4, ("falls",), (0, 0, 0, 0), ())
BIRD = ("bird", 8, 8, ("bars",), (0, 0, 0, 0), ())
KINDS = (BOX, GHOST, BIRD)
GAME = ((ROWS, (), 2, 1), KINDS)
WRONG_GAME = ((ROWS, (), 2, 9), KINDS)
OWN = (0, 0, 0, 0)


def game_of(*starts, rows=ROWS):
    return ((rows, starts, 2, 1), KINDS)


def box(x, y, rest=-2):
    return (0, 0, x, y, 0, 0, rest, OWN)


def ghost(x, y, rest=-2):
    return (1, -1, x, y, 0, 0, rest, OWN)


def world_of(*things):
    """A world with things in the slots from 0 on, some of them None, with right buckets."""
    world = first_world(GAME, 5)
    for slot, thing in enumerate(things):
        world = with_thing(GAME, world, slot, thing)
    return world


def put(world, cell, value):
    return world[:cell] + (value,) + world[cell + 1:]


class TestFirstWorld(unittest.TestCase):
    def test_its_cells(self):
        game = game_of((0, 1, 4, 32), (1, -1, 60, 20))
        world = first_world(game, 65536)
        self.assertEqual(len(world), 55)
        self.assertEqual(world[0], (0, 1, 4, 32, 0, 0, -1, (1, 2, 3, 4)))
        self.assertEqual(world[1], (1, -1, 60, 20, 0, 0, -2, (0, 0, 0, 0)))
        self.assertEqual(world[2:16], (None,) * 14)
        self.assertEqual(world[16:32], ((),) * 16)
        self.assertEqual(world[32], 65536)
        self.assertEqual(world[33:49], (0,) * 16)
        self.assertEqual(world[49:], ((), (1,), (), (0,), (), ()))

    def test_things_over_several_blocks_are_in_several_buckets(self):
        world = first_world(game_of((0, 0, 28, 16), (0, 0, 60, 24), (1, 0, 28, 28)), 0)
        self.assertEqual(world[49:], ((0, 2), (0, 1), (1,), (), (), ()))
        world = first_world(game_of((0, 0, 28, 25), rows=("....." * 2,) * 6), 0)
        self.assertEqual(world[49:], ((0,), (0,), (), (0,), (0,), ()))

    def test_rests(self):
        for start, above, rest in (
                ((0, 0, 0, 32), (0, 0, 0, 24), 0), ((0, 0, 0, 32), (0, 0, 7, 24), 0),
                ((0, 0, 0, 32), (0, 0, 8, 24), -2), ((0, 0, 0, 32), (0, 0, 0, 23), -2),
                ((1, 0, 0, 36), (0, 0, 0, 28), -2), ((0, 0, 0, 32), (1, 0, 0, 28), -2),
                ((2, 0, 40, 0), (0, 0, 40, 8), -2), ((2, 0, 40, 10), (0, 0, 44, 2), 0)):
            self.assertEqual(first_world(game_of(start, above), 0)[1][6], rest, (start, above))
            self.assertEqual(first_world(game_of(above, start), 0)[0][6], 1 if rest == 0 else rest)
        for start, rest in (((0, 0, 0, 32), -1), ((0, 0, 16, 24), -1), ((0, 0, 23, 24), -1), ((0, 0, 24, 24), -2),
                            ((0, 0, 16, 25), -2), ((1, 0, 16, 28), -1), ((1, 0, 16, 29), -2), ((2, 0, 0, 32), -2),
                            ((0, 0, 16, 40), -2), ((0, 0, 16, 47), -2), ((0, 0, 28, 16), -1), ((2, 0, 32, 16), -2)):
            self.assertEqual(first_world(game_of(start), 0)[0][6], rest, start)

    def test_the_least_slot_of_those_it_stands_on(self):
        starts = ((0, 0, 4, 24), (2, 0, 0, 32), (0, 0, 8, 32))
        self.assertEqual(first_world(game_of(*starts), 0)[0][6], 1)
        self.assertEqual(first_world(game_of((0, 0, 4, 24), (0, 0, 8, 32), (2, 0, 0, 32)), 0)[0][6], 1)

    def test_errors(self):
        for seed in (-1, 65537):
            with self.assertRaises(InvalidNumber) as caught:
                first_world(GAME, seed)
            self.assertEqual(caught.exception.value, seed)
            with self.assertRaises(InvalidGame) as caught:
                first_world(game=WRONG_GAME, seed=seed)
            self.assertEqual(caught.exception.value, WRONG_GAME)


class TestWrongCell(unittest.TestCase):
    def wrong(self, world, cell):
        self.assertEqual(wrong_cell(GAME, world), cell)
        self.assertIs(is_world(GAME, world), cell is None)

    def test_right_worlds(self):
        self.wrong(world_of(), None)
        self.wrong(world_of(box(0, 0), None, box(8, 0, 15), ghost(3, 3, -1)), None)
        self.assertIs(is_world(game=GAME, told=world_of()), True)
        self.assertIs(wrong_cell(game=GAME, told=world_of()), None)
        rng = random.Random(10)
        for _ in range(20):
            for game in (random_game(rng), crowded_game(rng)):
                self.assertIs(is_world(game, first_world(game, 3)), True)

    def test_slots_of_wrong_things(self):
        for wrong in ((3, 0, 0, 0, 0, 0, -2, OWN), (0, 2, 0, 0, 0, 0, -2, OWN), (0, 0, 0, 0, 8, 0, -2, OWN),
                      (0, 0, 0, 0, 0, 0, 16, OWN), (0, 0, 0, 0, 0, 0, -2, (0, 0, 0))):
            self.wrong(put(world_of(box(40, 0)), 7, wrong), 7)

    def test_things_in_walls(self):
        for x, y, right in ((0, 32, True), (0, 33, False), (-1, 0, False), (64, 0, True), (65, 0, False),
                            (0, -1, False), (32, 16, True), (32, 17, False), (24, 24, True), (25, 24, False)):
            self.wrong(world_of(None, box(x, y)), None if right else 1)

    def test_things_below_the_floor(self):
        for y, right in ((40, True), (47, True), (48, False), (90, False)):
            self.wrong(world_of(None, None, box(16, y)), None if right else 2)

    def test_things_that_bar_within_one_another(self):
        self.wrong(world_of(box(0, 0), box(8, 0)), None)
        self.wrong(world_of(box(0, 0), box(7, 0)), 1)
        self.wrong(world_of(box(0, 0), ghost(7, 0), box(40, 0), box(7, 7)), 3)
        self.wrong(world_of(ghost(0, 0), box(0, 0), ghost(1, 1)), None)

    def test_met_cells(self):
        world = world_of(box(0, 0), box(20, 0))
        for met, right in (((), True), ((1,), True), ((1, 2, 15), True), ((0,), False), ((0, 1), False),
                           ((2, 1), False), ((1, 1), False), ((16,), False), ((-1, 1), False)):
            self.wrong(put(world, 16, met), None if right else 16)
        self.wrong(put(world, 17, (0, 2)), None)
        self.wrong(put(world, 17, (0, 1)), 17)
        self.wrong(put(world, 18, (1,)), 18)
        self.wrong(put(world, 31, (0,)), 31)

    def test_seed_and_marks(self):
        for seed, right in ((-1, False), (0, True), (65536, True), (65537, False)):
            self.wrong(put(world_of(), 32, seed), None if right else 32)
        for mark, right in ((-1000, False), (-999, True), (999, True), (1000, False)):
            self.wrong(put(world_of(), 33, mark), None if right else 33)
            self.wrong(put(world_of(), 48, mark), None if right else 48)

    def test_buckets(self):
        world = world_of(box(28, 0), box(40, 0))
        self.assertEqual(world[49:51], ((0,), (0, 1)))
        for cell, bucket in ((49, ()), (49, (0, 1)), (50, (1, 0)), (50, (0,)), (50, (0, 0, 1)), (51, (1,)), (54, (5,))):
            self.wrong(put(world, cell, bucket), cell)

    def test_the_least_of_several(self):
        world = put(put(put(world_of(box(0, 0)), 54, (0,)), 40, 1000), 20, (3,))
        self.wrong(world, 20)
        self.wrong(put(world, 20, ()), 40)
        self.wrong(put(put(world, 20, ()), 40, 0), 54)

    def test_another_number_of_cells(self):
        world = world_of(box(0, 0), box(40, 28))
        for many in (0, 1, 10, 16, 20, 32, 33, 48, 49, 50, 54):
            self.wrong(world[:many], many)
        self.wrong(world + ((),), 55)
        self.wrong(world + (None, 7, ()), 55)
        self.wrong(put(world, 40, 1000)[:45], 40)
        self.wrong(put(world, 40, 1000)[:40], 40)
        self.wrong(put(world, 40, 1000) + ((),), 40)
        self.wrong(put(world, 54, (0,)) + ((),), 54)

    def test_errors(self):
        for call in (wrong_cell, is_world):
            with self.assertRaises(InvalidGame) as caught:
                call(WRONG_GAME, world_of())
            self.assertEqual(caught.exception.value, WRONG_GAME)


class TestCells(unittest.TestCase):
    def test_cells_of(self):
        self.assertEqual(cells_of(GAME), 55)
        self.assertEqual(cells_of(game=game_of(rows=("....",) * 3)), 50)
        self.assertEqual(cells_of(game_of(rows=("." * 24,) * 16)), 73)
        with self.assertRaises(InvalidGame):
            cells_of(WRONG_GAME)

    def test_kind_of_cell(self):
        for cell, told in ((0, ("slot", 0)), (15, ("slot", 15)), (16, ("met", 0)), (31, ("met", 15)), (32, ("seed", 0)),
                           (33, ("mark", 0)), (48, ("mark", 15)), (49, ("bucket", 0)), (54, ("bucket", 5))):
            self.assertEqual(kind_of_cell(GAME, cell), told)
        self.assertEqual(kind_of_cell(game=GAME, cell=20), ("met", 4))
        for cell in (-1, 55):
            with self.assertRaises(InvalidCell) as caught:
                kind_of_cell(GAME, cell)
            self.assertEqual(caught.exception.value, cell)
            with self.assertRaises(InvalidGame):
                kind_of_cell(WRONG_GAME, cell)

    def test_bucket_cells(self):
        for told, cells in (
                ((0, 0, 8, 8), (49,)), ((31, 31, 1, 1), (49,)), ((31, 31, 2, 1), (49, 50)), ((31, 31, 1, 2), (49, 52)),
                ((31, 31, 2, 2), (49, 50, 52, 53)), ((60, 0, 8, 8), (50, 51)),
                ((0, 0, 72, 48), (49, 50, 51, 52, 53, 54)), ((71, 47, 9, 9), (54,)), ((72, 0, 4, 4), ()),
                ((0, 48, 4, 4), ()), ((0, 47, 4, 4), (52,)), ((-4, 0, 4, 4), ()), ((-4, 0, 5, 4), (49,)),
                ((0, -4, 4, 4), ()), ((28, -3, 8, 4), (49, 50)), ((-9, -9, 500, 500), (49, 50, 51, 52, 53, 54)),
                ((0, 60, 4, 4), ()), ((80, 20, 16, 16), ())):
            self.assertEqual(bucket_cells(GAME, told), cells, told)
        self.assertEqual(bucket_cells(game=GAME, box=(0, 0, 1, 1)), (49,))
        with self.assertRaises(InvalidGame):
            bucket_cells(WRONG_GAME, (0, 0, 1, 1))

    def test_bucket_cells_by_units(self):
        rng = random.Random(11)
        for _ in range(300):
            told = (rng.randint(-9, 80), rng.randint(-9, 60), rng.randint(1, 40), rng.randint(1, 40))
            units = [(x, y) for x in range(told[0], told[0] + told[2]) for y in range(told[1], told[1] + told[3])]
            cells = {49 + y // 32 * 3 + x // 32 for x, y in units if 0 <= x < 72 and 0 <= y < 48}
            self.assertEqual(bucket_cells(GAME, told), tuple(sorted(cells)))

    def test_with_thing_puts_in_and_takes_out(self):
        empty = first_world(GAME, 5)
        one = with_thing(GAME, empty, 3, box(28, 0))
        self.assertEqual(unlike(empty, one), (3, 49, 50))
        self.assertEqual((one[3], one[49], one[50]), (box(28, 0), (3,), (3,)))
        two = with_thing(game=GAME, world=one, slot=1, thing=ghost(30, 0))
        self.assertEqual((two[49], two[50]), ((1, 3), (1, 3)))
        self.assertEqual(with_thing(GAME, two, 1, None), one)
        self.assertEqual(with_thing(GAME, one, 3, None), empty)
        self.assertEqual(with_thing(GAME, one, 3, box(28, 0)), one)
        self.assertEqual(with_thing(GAME, empty, 9, None), empty)

    def test_with_thing_in_the_place_of_another(self):
        one = put(world_of(box(28, 0)), 16, (1,))
        two = with_thing(GAME, one, 0, ghost(40, 40))
        self.assertEqual((two[0], two[16]), (ghost(40, 40), (1,)))
        self.assertEqual(two[49:], ((), (), (), (), (0,), ()))

    def test_the_met_cell_of_an_emptied_slot(self):
        world = put(put(world_of(box(0, 0), box(8, 0)), 16, (1,)), 17, (0,))
        out = with_thing(GAME, world, 0, None)
        self.assertEqual((out[16], out[17]), ((), (0,)))

    def test_with_thing_anywhere(self):
        for x, y, cells in ((-4, 0, (49,)), (-8, 0, ()), (0, 44, (52,)), (0, 48, ()), (68, 44, (54,)), (0, -8, ()),
                            (500, 500, ())):
            world = with_thing(GAME, first_world(GAME, 5), 2, box(x, y))
            self.assertEqual(tuple(cell for cell in range(49, 55) if world[cell] == (2,)), cells)
            self.assertEqual(with_thing(GAME, world, 2, None), first_world(GAME, 5))

    def test_with_thing_errors_in_their_order(self):
        world, wrong = first_world(GAME, 5), (3, 0, 0, 0, 0, 0, -2, OWN)
        with self.assertRaises(InvalidGame) as caught:
            with_thing(WRONG_GAME, world, 16, wrong)
        self.assertEqual(caught.exception.value, WRONG_GAME)
        for slot in (-1, 16, 49):
            with self.assertRaises(InvalidSlot) as caught:
                with_thing(GAME, world, slot, wrong)
            self.assertEqual(caught.exception.value, slot)
        with self.assertRaises(InvalidThing) as caught:
            with_thing(GAME, world, 15, wrong)
        self.assertEqual(caught.exception.value, wrong)

    def test_unlike(self):
        one = world_of(box(0, 0))
        self.assertEqual(unlike(one, one), ())
        self.assertEqual(unlike(one=one, other=put(put(one, 54, (3,)), 2, box(9, 9))), (2, 54))
        self.assertEqual(unlike((), ()), ())
        for n, m in ((55, 54), (0, 1)):
            with self.assertRaises(InvalidPair) as caught:
                unlike(one[:n], one[:m])
            self.assertEqual(caught.exception.value, (n, m))


class TestLooks(unittest.TestCase):
    def test_what_was_looked_at_ascending_and_once(self):
        world = world_of(box(0, 0))
        looks = Looks(world)
        self.assertEqual(looks.seen(), ())
        self.assertEqual([looks.at(cell) for cell in (49, 0, 49, 5, 32, 0)],
                         [(0,), box(0, 0), (0,), None, 5, box(0, 0)])
        self.assertEqual(looks.seen(), ((0, box(0, 0)), (5, None), (32, 5), (49, (0,))))
        self.assertEqual(looks.at(cell=54), ())
        self.assertEqual(looks.seen()[-1], (54, ()))

    def test_two_looks_at_one_world_are_two(self):
        world = world_of()
        one, other = Looks(world=world), Looks(world)
        one.at(3)
        self.assertEqual((one.seen(), other.seen()), (((3, None),), ()))

    def test_a_cell_that_there_is_not(self):
        looks = Looks(world_of())
        for cell in (-1, 55, 1000):
            with self.assertRaises(InvalidCell) as caught:
                looks.at(cell)
            self.assertEqual(caught.exception.value, cell)
        self.assertEqual(looks.seen(), ())

    def test_each_value_seen_is_of_the_world(self):
        rng = random.Random(12)
        world = first_world(crowded_game(rng), 9)
        looks = Looks(world)
        cells = [rng.randrange(len(world)) for _ in range(30)]
        for cell in cells:
            looks.at(cell)
        self.assertEqual(looks.seen(), tuple((cell, world[cell]) for cell in sorted(set(cells))))


class TestBoxesOfThings(unittest.TestCase):
    def test_box_of_things_in_worlds(self):
        self.assertEqual(box_of(GAME, world_of(box(1, 2))[0]), (1, 2, 8, 8))
