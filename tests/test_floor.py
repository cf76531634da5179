"""latepresses.floor."""

import random
import unittest

from samples import crowded_game

from latepresses.boxes import meet
from latepresses.cells import Looks, bucket_cells, first_world, is_world, unlike, with_thing
from latepresses.errors import InvalidPair, InvalidSlot
from latepresses.floor import lot, meeting, moved_lot, stands_on
from latepresses.things import box_of

# 9 by 6 squares: 72 by 48 units, buckets 49 to 51 over 52 to 54.
ROWS = (".........", ".........", "..=......", ".........", "....#....", "....#....")
OWN = (0, 0, 0, 0)
CRATE, STONE, GHOST, MIST, BIRD, CART = range(6)
KINDS = (
    ("crate", 8, 8, ("bars", "falls", "pushed"), OWN, ()),
    ("stone", 8, 8, ("bars", "falls"), OWN, ()),
    ("ghost", 8, 8, ("falls",), OWN, ()),
    ("mist", 8, 8, (), OWN, ()),
    ("bird", 8, 8, ("bars",), OWN, ()),
    ("cart", 8, 8, ("bars", "carries", "pushed"), OWN, ()),
)
GAME = ((ROWS, (), 1, 1), KINDS)
LEFT, RIGHT, UP, DOWN = (-1, 0), (1, 0), (0, -1), (0, 1)


def world_of(*things):
    """A world with things (kind, x, y), or None, in the slots from 0 on."""
    world = first_world(GAME, 0)
    for slot, thing in enumerate(things):
        if thing is not None:
            kind, x, y = thing
            world = with_thing(GAME, world, slot, (kind, -1, x, y, 0, 0, -2, OWN))
    return world


def seen(looks):
    return tuple(cell for cell, _ in looks.seen())


class TestMeeting(unittest.TestCase):
    def test_things_beside_within_and_below_one_another(self):
        world = world_of((CRATE, 0, 0), (MIST, 4, 4), (STONE, 8, 0), None, (GHOST, 8, 8))
        for box, but, slots in (((0, 0, 8, 8), (), (0, 1)), ((0, 0, 8, 8), (0,), (1,)), ((0, 0, 9, 8), (), (0, 1, 2)),
                                ((0, 0, 9, 9), (), (0, 1, 2, 4)), ((0, 0, 9, 9), (1, 4), (0, 2)),
                                ((16, 0, 4, 4), (), ()), ((12, 12, 1, 1), (), (4,)), ((0, 0, 4, 4), (), (0,)),
                                ((0, 0, 4, 4), (0,), ()), ((-3, -3, 4, 4), (), (0,)),
                                ((0, 0, 72, 48), (), (0, 1, 2, 4))):
            self.assertEqual(meeting(GAME, Looks(world), box, but), slots, box)
        self.assertEqual(meeting(game=GAME, looks=Looks(world), box=(0, 0, 1, 1), but=()), (0,))

    def test_the_buckets_of_the_box_and_the_slots_in_them_but_some_are_looked_at(self):
        world = world_of((CRATE, 0, 0), (MIST, 20, 20), (STONE, 28, 0), (CRATE, 64, 0), (GHOST, 40, 40))
        for box, but, cells in (
                ((0, 8, 4, 4), (), (0, 1, 2, 49)), ((0, 8, 4, 4), (1,), (0, 2, 49)), ((0, 8, 4, 4), (2, 0, 1), (49,)),
                ((30, 8, 4, 4), (), (0, 1, 2, 49, 50)), ((33, 8, 4, 4), (), (2, 50)), ((66, 30, 2, 4), (), (3, 51, 54)),
                ((30, 30, 4, 4), (0,), (1, 2, 4, 49, 50, 52, 53)), ((0, 40, 4, 20), (), (52,)), ((0, 48, 4, 4), (), ()),
                ((-8, 0, 8, 8), (), ())):
            looks = Looks(world)
            meeting(GAME, looks, box, but)
            self.assertEqual(seen(looks), cells, box)

    def test_a_box_wholly_below_the_floor_meets_nothing(self):
        world = world_of((CRATE, 0, 44), (CRATE, 8, 48))
        self.assertEqual(meeting(GAME, Looks(world), (0, 48, 8, 8), ()), ())
        self.assertEqual(meeting(GAME, Looks(world), (0, 47, 8, 8), ()), (0,))
        self.assertEqual(meeting(GAME, Looks(world), (4, 44, 8, 8), ()), (0,))

    def test_in_crowds(self):
        rng = random.Random(13)
        for _ in range(30):
            game = crowded_game(rng)
            world = first_world(game, 1)
            box = (rng.randint(-2, 40), rng.randint(-2, 40), rng.randint(1, 20), rng.randint(1, 20))
            slots = tuple(slot for slot in range(16)
                          if world[slot] is not None and meet(box, box_of(game, world[slot])))
            looks = Looks(world)
            self.assertEqual(meeting(game, looks, box, ()), slots)
            buckets = bucket_cells(game, box)
            near = {slot for cell in buckets for slot in world[cell]}
            self.assertEqual(seen(looks), tuple(sorted({*buckets, *near})))


class TestLot(unittest.TestCase):
    def lots(self, world, slot, left, right, up, down):
        for way, slots in ((LEFT, left), (RIGHT, right), (UP, up), (DOWN, down)):
            self.assertEqual(lot(GAME, Looks(world), slot, *way), slots, way)

    def test_one_thing_alone(self):
        self.lots(world_of((CRATE, 20, 24)), 0, (0,), (0,), (0,), (0,))
        self.assertEqual(lot(game=GAME, looks=Looks(world_of((MIST, 4, 4))), slot=0, dx=1, dy=0), (0,))

    def test_walls_and_the_rims_of_the_floor(self):
        self.lots(world_of((CRATE, 0, 0)), 0, (), (0,), (), (0,))
        self.lots(world_of((MIST, 64, 0)), 0, (0,), (), (), (0,))
        self.lots(world_of((CRATE, 24, 32)), 0, (0,), (), (0,), (0,))
        self.lots(world_of((GHOST, 40, 32)), 0, (), (0,), (0,), (0,))
        self.lots(world_of((CRATE, 32, 24)), 0, (0,), (0,), (0,), ())

    def test_ledges_bar_what_goes_down_from_above(self):
        self.lots(world_of((CRATE, 16, 8)), 0, (0,), (0,), (0,), ())
        self.lots(world_of((MIST, 23, 8)), 0, (0,), (0,), (0,), ())
        self.lots(world_of((CRATE, 24, 8)), 0, (0,), (0,), (0,), (0,))
        self.lots(world_of((CRATE, 16, 9)), 0, (0,), (0,), (0,), (0,))
        self.lots(world_of((CRATE, 16, 24)), 0, (0,), (0,), (0,), (0,))
        self.lots(world_of((CRATE, 8, 16)), 0, (0,), (0,), (0,), (0,))

    def test_what_is_pushed_goes_along(self):
        world = world_of((STONE, 40, 8), (CRATE, 48, 4), (CRATE, 32, 8), (CRATE, 40, 0), (CRATE, 40, 16))
        self.lots(world, 0, (0, 2), (0, 1), (), (0, 4))
        self.lots(world_of((STONE, 40, 9), (CRATE, 40, 1)), 0, (0,), (0,), (0, 1), (0,))
        self.lots(world_of((CRATE, 47, 8), (STONE, 39, 8)), 1, (1,), (0, 1), (1,), (1,))

    def test_boxes_that_just_do_not_meet_stay(self):
        self.lots(world_of((STONE, 40, 8), (CRATE, 48, 0), (CRATE, 49, 8), (CRATE, 48, 16)), 0, (0,), (0,), (0,), (0,))

    def test_what_is_not_pushed_stops_it(self):
        world = world_of((CRATE, 40, 8), (STONE, 48, 8), (BIRD, 32, 8), (BIRD, 40, 0), (STONE, 40, 16))
        self.lots(world, 0, (), (), (), ())

    def test_up_what_falls_is_taken_along(self):
        self.lots(world_of((CRATE, 40, 16), (STONE, 36, 8), (STONE, 44, 8)), 0, (0,), (0,), (0, 1, 2), (0,))
        self.lots(world_of((BIRD, 40, 16), (STONE, 40, 8), (CART, 40, 0)), 0, (0,), (0,), (), (0,))
        self.lots(world_of((BIRD, 40, 24), (STONE, 40, 16), (CART, 40, 8)), 0, (0,), (0,), (0, 1, 2), (0,))
        self.lots(world_of((BIRD, 40, 24), (STONE, 40, 16), (BIRD, 40, 8)), 0, (0,), (0,), (), (0,))

    def test_things_that_do_not_bar_push_nothing_and_stop_nothing(self):
        world = world_of((GHOST, 40, 8), (STONE, 48, 8), (BIRD, 32, 8), (CRATE, 40, 0), (CRATE, 40, 16))
        self.lots(world, 0, (0,), (0,), (0,), (0,))
        self.lots(world_of((CRATE, 40, 8), (GHOST, 48, 8), (MIST, 40, 8)), 0, (0,), (0,), (0,), (0,))

    def test_lots_of_several_that_push_one_another(self):
        world = world_of((CRATE, 56, 8), (CRATE, 40, 8), (CRATE, 48, 10), (CRATE, 32, 4))
        self.lots(world, 3, (3,), (0, 1, 2, 3), (3,), (3,))
        self.lots(world, 0, (0, 1, 2, 3), (0,), (0,), (0,))

    def test_one_that_is_stopped_stops_the_whole_lot(self):
        self.lots(world_of((CRATE, 48, 8), (CRATE, 56, 8), (CRATE, 64, 8)), 0, (0,), (), (0,), (0,))
        self.lots(world_of((CRATE, 40, 8), (CRATE, 48, 4), (STONE, 56, 0)), 0, (0,), (), (0,), (0,))
        self.lots(world_of((CRATE, 16, 0), (CRATE, 16, 8)), 0, (0,), (0,), (), ())
        self.lots(world_of((STONE, 20, 8), (CRATE, 12, 8), (CRATE, 4, 8)), 0, (0, 1, 2), (0,), (0,), ())

    def test_a_lot_that_begins_below_the_floor(self):
        self.lots(world_of((CRATE, 0, 48), (CRATE, 0, 40)), 0, (), (0,), (0, 1), (0,))
        self.lots(world_of((CRATE, 8, 49), (CRATE, 8, 41)), 0, (0,), (0,), (0,), (0,))
        self.lots(world_of((CRATE, 8, 60), (CRATE, 16, 60)), 0, (0,), (0,), (0,), (0,))
        self.lots(world_of((CRATE, 8, 40), (BIRD, 8, 48)), 0, (0,), (0,), (0,), (0,))

    def test_below_the_floor_things_within_it_meet(self):
        self.lots(world_of((CRATE, 8, 44), (BIRD, 16, 47)), 0, (0,), (), (0,), (0,))

    def test_what_is_looked_at(self):
        # In the upper left block stand 0, 1 and 2, with 2 in the next one too; 3 to the right, 4 below.
        world = world_of((CRATE, 0, 0), (CRATE, 8, 0), (GHOST, 30, 4), (CRATE, 40, 0), (CRATE, 0, 40))
        for slot, way, cells in (
                (0, LEFT, (0,)), (0, UP, (0,)), (0, RIGHT, (0, 1, 2, 49)), (0, DOWN, (0, 1, 2, 49)),
                (1, LEFT, (0, 1, 2, 49)), (1, RIGHT, (0, 1, 2, 49)), (2, LEFT, (2,)), (2, DOWN, (2,)),
                (3, RIGHT, (2, 3, 50)), (3, LEFT, (2, 3, 50)), (4, DOWN, (4, 52)), (4, UP, (4, 52)), (4, LEFT, (4,))):
            looks = Looks(world)
            lot(GAME, looks, slot, *way)
            self.assertEqual(seen(looks), cells, (slot, way))

    def test_a_lot_over_two_blocks_is_looked_at_as_it_grows(self):
        # 0 pushes 1 into the next block, in which 2 stands in the way; 3 is near 1 alone.
        world = world_of((CRATE, 16, 0), (CRATE, 24, 0), (STONE, 32, 0), (GHOST, 64, 0), (GHOST, 50, 20))
        looks = Looks(world)
        self.assertEqual(lot(GAME, looks, 0, *RIGHT), ())
        self.assertEqual(seen(looks), (0, 1, 2, 4, 49, 50))
        looks = Looks(world)
        self.assertEqual(lot(GAME, looks, 1, *LEFT), (0, 1))
        self.assertEqual(seen(looks), (0, 1, 49))

    def test_nothing_is_looked_at_behind_what_stops_it(self):
        # The bird beside the crate stops 0, so the crate, whose further box has the next block, looks nowhere.
        for beside in (((BIRD, 28, 8), (CRATE, 28, 0)), ((CRATE, 28, 0), (BIRD, 28, 8))):
            world = world_of((CRATE, 20, 4), *beside, (GHOST, 40, 20))
            looks = Looks(world)
            self.assertEqual(lot(GAME, looks, 0, *RIGHT), ())
            self.assertEqual(seen(looks), (0, 1, 2, 49))

    def test_a_ledge_is_no_look(self):
        looks = Looks(world_of((CRATE, 16, 8), (CRATE, 16, 16)))
        self.assertEqual(lot(GAME, looks, 0, *DOWN), ())
        self.assertEqual(seen(looks), (0,))

    def test_errors(self):
        world = world_of(None, (CRATE, 0, 0))
        for slot in (0, 15, 16, 49, -1):
            for pair in ((1, 0), (0, 0)):
                with self.assertRaises(InvalidSlot) as caught:
                    lot(GAME, Looks(world), slot, *pair)
                self.assertEqual(caught.exception.value, slot)
        for pair in ((0, 0), (1, 1), (2, 0), (0, -2)):
            with self.assertRaises(InvalidPair) as caught:
                lot(GAME, Looks(world), 1, *pair)
            self.assertEqual(caught.exception.value, pair)


class TestStandsOn(unittest.TestCase):
    def stands(self, world, slot, rest, cells):
        looks = Looks(world)
        self.assertEqual(stands_on(GAME, looks, slot), rest)
        self.assertEqual(seen(looks), cells)

    def test_on_walls_and_ledges(self):
        self.stands(world_of((CRATE, 32, 24)), 0, -1, (0,))
        self.stands(world_of((GHOST, 39, 24)), 0, -1, (0,))
        self.stands(world_of((CRATE, 16, 8), (CRATE, 16, 16)), 0, -1, (0,))
        self.stands(world_of((CRATE, 16, 9)), 0, -2, (0, 49))
        self.assertEqual(stands_on(game=GAME, looks=Looks(world_of((CRATE, 32, 24))), slot=0), -1)

    def test_on_things(self):
        world = world_of((CRATE, 4, 0), (BIRD, 8, 8), (CRATE, 0, 8), (GHOST, 4, 8), (MIST, 20, 20))
        self.stands(world, 0, 1, (0, 1, 2, 3, 4, 49))
        self.stands(world_of((CRATE, 4, 0), (GHOST, 4, 8), (CRATE, 0, 8)), 0, 2, (0, 1, 2, 49))
        self.stands(world_of((CRATE, 0, 8), (CRATE, 4, 0)), 1, 0, (0, 1, 49))

    def test_in_the_air(self):
        self.stands(world_of((CRATE, 4, 0), (CRATE, 4, 9), (CRATE, 12, 8)), 0, -2, (0, 1, 2, 49))
        self.stands(world_of((CRATE, 4, 0), (GHOST, 4, 8)), 0, -2, (0, 1, 49))
        self.stands(world_of((CRATE, 44, 0), (GHOST, 4, 8)), 0, -2, (0, 50))

    def test_things_that_do_not_bar_stand_on_floors_alone(self):
        self.stands(world_of((GHOST, 4, 0), (CRATE, 4, 8)), 0, -2, (0,))

    def test_things_that_do_not_fall_rest_on_nothing(self):
        self.stands(world_of((BIRD, 32, 24), (CRATE, 4, 8)), 0, -2, (0,))
        self.stands(world_of((BIRD, 4, 0), (CRATE, 4, 8)), 0, -2, (0,))
        self.stands(world_of((MIST, 32, 24)), 0, -2, (0,))

    def test_over_two_blocks(self):
        self.stands(world_of((CRATE, 28, 16), (GHOST, 0, 0), (BIRD, 35, 24), (GHOST, 0, 40)), 0, 2, (0, 1, 2, 49, 50))
        self.stands(world_of((CRATE, 44, 24), (CRATE, 50, 32), (GHOST, 56, 0), (GHOST, 56, 40)), 0, 1,
                    (0, 1, 2, 3, 50, 53))

    def test_at_and_below_the_lower_rim(self):
        self.stands(world_of((CRATE, 0, 40), (CRATE, 0, 48)), 0, -2, (0, 52))
        self.stands(world_of((CRATE, 0, 47), (CRATE, 0, 55)), 0, -2, (0,))
        self.stands(world_of((CRATE, 0, 48), (CRATE, 0, 56)), 0, -2, (0,))
        self.stands(world_of((CRATE, 0, 60)), 0, -2, (0,))
        self.stands(world_of((CRATE, -4, 60)), 0, -2, (0,))

    def test_errors(self):
        for slot in (0, 16, -1):
            with self.assertRaises(InvalidSlot) as caught:
                stands_on(GAME, Looks(world_of(None, (CRATE, 0, 0))), slot)
            self.assertEqual(caught.exception.value, slot)


class TestMovedLot(unittest.TestCase):
    def test_some_are_moved_wherever_they_come_to_stand(self):
        world = world_of((CRATE, 0, 0), (CRATE, 8, 0), (GHOST, 40, 40))
        behind = moved_lot(GAME, world, (0, 2), 25, -1)
        self.assertEqual([behind[slot][2:4] for slot in range(3)], [(25, -1), (8, 0), (65, 39)])
        self.assertEqual(behind, world_of((CRATE, 25, -1), (CRATE, 8, 0), (GHOST, 65, 39)))
        self.assertEqual(moved_lot(game=GAME, world=world, slots=(), dx=5, dy=5), world)
        self.assertEqual(moved_lot(GAME, world, (0, 1, 2), 0, 0), world)

    def test_only_places_and_buckets_become_others(self):
        world = first_world(GAME, 0)
        world = with_thing(GAME, world, 4, (CRATE, 0, 20, 20, 3, -2, 7, (1, 2, 3, 4)))
        behind = moved_lot(GAME, world, (4,), 12, 12)
        self.assertEqual(behind[4], (CRATE, 0, 32, 32, 3, -2, 7, (1, 2, 3, 4)))
        self.assertEqual(unlike(world, behind), (4, 49, 53))

    def test_each_once(self):
        world = world_of((CRATE, 0, 0), (CRATE, 8, 0))
        self.assertEqual(moved_lot(GAME, world, (1, 0, 1), 3, 4), world_of((CRATE, 3, 4), (CRATE, 11, 4)))

    def test_out_of_the_floor(self):
        world = world_of((CRATE, 0, 40))
        for dx, dy, cells in ((0, 7, (52,)), (0, 8, ()), (-7, 0, (52,)), (-8, 0, ()), (72, 0, ()), (0, -48, ())):
            behind = moved_lot(GAME, world, (0,), dx, dy)
            self.assertEqual(tuple(cell for cell in range(49, 55) if behind[cell] == (0,)), cells)
            self.assertEqual(moved_lot(GAME, behind, (0,), -dx, -dy), world)

    def test_errors_name_the_first_from_the_left(self):
        world = world_of((CRATE, 0, 0), None, (CRATE, 8, 0))
        for slots, wrong in (((1,), 1), ((0, 2, 5, 3), 5), ((2, 16), 16), ((-1, 1), -1), ((0, 1, -1), 1)):
            with self.assertRaises(InvalidSlot) as caught:
                moved_lot(GAME, world, slots, 1, 0)
            self.assertEqual(caught.exception.value, wrong)


class TestLotsKeepWorldsRight(unittest.TestCase):
    def test_a_lot_that_goes_is_free_behind(self):
        rng = random.Random(14)
        went = 0
        for _ in range(40):
            game = crowded_game(rng)
            world = first_world(game, 1)
            for slot in range(len(game[0][1])):
                way = rng.choice((LEFT, RIGHT, UP, DOWN))
                slots = lot(game, Looks(world), slot, *way)
                self.assertEqual(slots, tuple(sorted(set(slots))))
                if slots:
                    self.assertIn(slot, slots)
                    behind = moved_lot(game, world, slots, *way)
                    went += 1
                    fallen = any(behind[s] is not None and behind[s][3] >= 48 for s in range(16))
                    self.assertTrue(is_world(game, behind) or fallen)
        self.assertGreater(went, 50)
