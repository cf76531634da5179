"""latepresses.sums."""

import random
import unittest

from cases import Case, changed
from samples import played_game, random_rows_of_presses

from latepresses.cells import first_world
from latepresses.errors import InvalidNumber, InvalidPair, InvalidWorld
from latepresses.sums import chained, parted, stretch_sum, thing_sum
from latepresses.ticks import run

M = 2305843009213693951
GAME = played_game(2)
WORLD = first_world(GAME, 5)
ROWS = random_rows_of_presses(random.Random(71), GAME, 12)
WORLDS = tuple(run(GAME, WORLD, ROWS))


def whole(number):
    return (number * 2654435761 + 97) % M


def row(*sums):
    """The sum of a tuple by the sums of its parts."""
    s = 13
    for part in sums:
        s = (s * 1000003 + part + 17) % M
    return (s + len(sums)) % M


class TestThingSum(Case):
    def test_integers(self):
        for number in (0, 1, -1, 97, 65536, -999, M, -M, M - 1, 10 ** 40, -10 ** 40):
            self.assertEqual(thing_sum(number), whole(number))
            self.assertTrue(0 <= thing_sum(number) < M)
        self.assertEqual([thing_sum(0), thing_sum(1), thing_sum(value=-1)], [97, 2654435858, M - 2654435664])

    def test_none_and_nothing(self):
        self.assertEqual((thing_sum(None), thing_sum(())), (11, 13))

    def test_tuples(self):
        self.assertEqual(thing_sum((0,)), 13 * 1000003 + 97 + 17 + 1)
        self.assertEqual(thing_sum((None, 5)), row(11, whole(5)))
        self.assertEqual(thing_sum((3, (-4, None, ()), ((7,),))),
                         row(whole(3), row(whole(-4), 11, 13), row(row(whole(7)))))
        self.assertEqual(thing_sum(tuple(range(300))), row(*[whole(k) for k in range(300)]))

    def test_parts_count_in_their_order_and_number(self):
        told = ((), (0,), (0, 0), ((),), ((), 0), (0, ()), (1, 2), (2, 1), ((1,), 2), (1, (2,)), (None,), None)
        self.assertEqual(len({thing_sum(value) for value in told}), len(told))

    def test_deep_ones(self):
        value, due = (), 13
        for _ in range(60):
            value, due = (value,), row(due)
        self.assertEqual(thing_sum(value), due)


class TestStretchSum(Case):
    def test_all_stretches(self):
        world = WORLDS[5]
        many = len(world)
        for first in range(0, many, 3):
            for last in range(first + 1, many + 1, 4):
                self.assertEqual(stretch_sum(world, first, last), thing_sum(world[first:last]))
        self.assertEqual(stretch_sum(world, 0, many), thing_sum(world))
        self.assertEqual(stretch_sum(world, many - 1, many), thing_sum(world[-1:]))
        self.assertEqual(stretch_sum(world=world, first=0, last=1), row(thing_sum(world[0])))

    def test_errors(self):
        many = len(WORLD)
        for wrong in (-1, many, many + 5):
            for last in (0, -1, 3, many, many + 9):
                self.raises(InvalidNumber, wrong, stretch_sum, WORLD, wrong, last)
        for first, last in ((0, 0), (3, 3), (3, 2), (3, -1), (0, many + 1), (many - 1, many - 1), (many - 1, many + 2)):
            self.raises(InvalidNumber, last, stretch_sum, WORLD, first, last)


class TestChained(Case):
    def test_no_world_one_and_several(self):
        self.assertEqual(chained(()), [])
        self.assertEqual(chained((WORLD,)), [row(whole(0), whole(thing_sum(WORLD)))])
        due, ahead = [], 0
        for world in WORLDS:
            ahead = row(whole(ahead), whole(thing_sum(world)))
            due.append(ahead)
        self.assertEqual(chained(worlds=WORLDS), due)
        self.assertEqual(chained(WORLDS[:4]), due[:4])

    def test_what_differs_once_differs_from_there_on(self):
        other = changed(WORLDS, 4, changed(WORLDS[4], 0, None))
        alike = [one == two for one, two in zip(chained(WORLDS), chained(other))]
        self.assertEqual(alike, [True] * 4 + [False] * 9)


def halves_of_ticks(tick, many):
    """How often the middle is asked until just this tick is left."""
    first, last, asked = 0, many - 1, 0
    while first != last:
        middle = (first + last) // 2
        first, last, asked = (first, middle, asked + 1) if tick <= middle else (middle + 1, last, asked + 1)
    return asked


def halves_of_cells(cell, many):
    first, last, asked = 0, many, 0
    while first + 1 != last:
        middle = (first + last) // 2
        first, last, asked = (first, middle, asked + 1) if cell < middle else (middle, last, asked + 1)
    return asked


class TestParted(Case):
    def test_where_one_cell_of_one_tick_differs(self):
        """They are alike again behind it, but the sums are not."""
        cells = len(WORLD)
        for tick in range(13):
            for cell in (0, 1, 7, 32, 48, cells // 2, cells - 1):
                other = changed(WORLDS, tick, changed(WORLDS[tick], cell, (1, 2, 3, 4, 5)))
                asked = halves_of_ticks(tick, 13) + halves_of_cells(cell, cells)
                self.assertEqual(parted(WORLDS, other), (tick, cell, asked))
                self.assertEqual(parted(other, WORLDS), (tick, cell, asked))
                self.assertLessEqual(asked, 4 + 6)

    def test_counted_by_hand(self):
        one = ((0, 0, 0, 0, 0),) * 4
        for tick, ticks_asked in ((0, 2), (1, 2), (2, 2), (3, 2)):
            for cell, cells_asked in ((0, 2), (1, 2), (2, 2), (3, 3), (4, 3)):
                other = changed(one, tick, changed(one[0], cell, 1))
                self.assertEqual(parted(one, other), (tick, cell, ticks_asked + cells_asked))
        self.assertEqual(parted(((5,),), ((6,),)), (0, 0, 0))
        self.assertEqual(parted(((5,), (5,), (5,)), ((5,), (5,), (6,))), (2, 0, 1))
        self.assertEqual(parted(((5,), (5,), (5,)), ((6,), (5,), (5,))), (0, 0, 2))
        self.assertEqual(parted(((5, 5),), ((5, 6),)), (0, 1, 1))

    def test_the_left_half_first(self):
        one, other = ((0,) * 8,), ((0, 0, 0, 1, 0, 1, 1, 0),)
        self.assertEqual(parted(one, other), (0, 3, 3))

    def test_runs_that_part_by_a_press(self):
        for tick in range(12):
            rows = changed(ROWS, tick, (ROWS[tick][0] ^ 32, ROWS[tick][1]))
            told = parted(WORLDS, tuple(run(GAME, WORLD, rows)))
            self.assertEqual(told, (tick + 1, 33, halves_of_ticks(tick + 1, 13) + halves_of_cells(33, len(WORLD))))

    def test_at_the_tick_and_cell_the_worlds_are_unlike(self):
        rng = random.Random(72)
        for _ in range(20):
            tick = rng.randrange(12)
            rows = changed(ROWS, tick, (rng.randrange(64), rng.randrange(64)))
            other = tuple(run(GAME, WORLD, rows))
            told = parted(one=WORLDS, other=other)
            if other == WORLDS:
                self.assertIsNone(told)
            else:
                self.assertEqual(WORLDS[:told[0]], other[:told[0]])
                self.assertNotEqual(WORLDS[told[0]][told[1]], other[told[0]][told[1]])

    def test_alike_throughout(self):
        for many in (1, 2, 13):
            self.assertIsNone(parted(WORLDS[:many], WORLDS[:many]))

    def test_errors_in_their_order(self):
        self.raises(InvalidPair, (3, 2), parted, WORLDS[:3], WORLDS[:2])
        self.raises(InvalidPair, (0, 1), parted, (), WORLDS[:1])
        self.raises(InvalidPair, (1, 0), parted, WORLDS[:1], ())
        self.raises(InvalidPair, (3, 2), parted, ((1, 2), (3,), (4,)), ((1,), (2, 3)))
        self.raises(InvalidPair, (1, 2), parted, ((1, 2), (3,), (4, 5)), ((1, 2), (3, 4), (4,)))
        self.raises(InvalidPair, (2, 1), parted, ((1, 2), (3,)), ((1,), (3, 4)))
        self.raises(InvalidWorld, (), parted, (), ())


if __name__ == "__main__":
    unittest.main()
