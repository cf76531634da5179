"""latepresses.boxes."""

import random
import unittest

from latepresses.boxes import around, gap, grown, meet, moved, squares
from latepresses.errors import InvalidNumber, InvalidPair


def units(box):
    x, y, wide, high = box
    return {(a, b) for a in range(x, x + wide) for b in range(y, y + high)}


def random_box(rng):
    return (rng.randint(-9, 9), rng.randint(-9, 9), rng.randint(1, 6), rng.randint(1, 6))


class TestBoxes(unittest.TestCase):
    def test_meet_of_boxes_that_just_touch_and_just_meet(self):
        box = (0, 0, 4, 4)
        for x, y, touches in ((4, 0, False), (3, 0, True), (-2, 0, False), (-1, 0, True), (0, 4, False),
                              (0, 3, True), (0, -2, False), (0, -1, True), (4, 4, False), (3, 3, True),
                              (-2, -2, False), (-1, -1, True), (1, 1, True)):
            self.assertIs(meet(box, (x, y, 2, 2)), touches)
            self.assertIs(meet((x, y, 2, 2), box), touches)
        self.assertIs(meet(one=box, other=box), True)

    def test_meet_is_to_have_a_unit_in_common(self):
        rng = random.Random(1)
        for _ in range(500):
            one, other = random_box(rng), random_box(rng)
            self.assertIs(meet(one, other), bool(units(one) & units(other)))

    def test_grown(self):
        self.assertEqual(grown((4, 4, 2, 3), 1), (3, 3, 4, 5))
        self.assertEqual(grown(box=(-1, 0, 1, 1), by=5), (-6, -5, 11, 11))
        self.assertEqual(grown((4, 4, 2, 3), 0), (4, 4, 2, 3))
        with self.assertRaises(InvalidNumber) as caught:
            grown((4, 4, 2, 3), -1)
        self.assertEqual(caught.exception.value, -1)

    def test_moved(self):
        self.assertEqual(moved((4, 5, 2, 3), 1, -2), (5, 3, 2, 3))
        self.assertEqual(moved(box=(4, 5, 2, 3), dx=0, dy=0), (4, 5, 2, 3))

    def test_squares(self):
        self.assertEqual(squares((6, 0, 4, 2), 8), [(0, 0), (0, 1)])
        self.assertEqual(squares((0, 0, 8, 8), 8), [(0, 0)])
        self.assertEqual(squares((0, 0, 9, 9), 8), [(0, 0), (0, 1), (1, 0), (1, 1)])
        self.assertEqual(squares(box=(-1, -9, 2, 2), size=8), [(-2, -1), (-2, 0), (-1, -1), (-1, 0)])
        self.assertEqual(squares((3, -2, 2, 1), 1), [(-2, 3), (-2, 4)])
        rng = random.Random(2)
        for _ in range(200):
            box, size = random_box(rng), rng.randint(1, 9)
            self.assertEqual(squares(box, size), sorted({(y // size, x // size) for x, y in units(box)}))

    def test_squares_are_a_new_list_each_time(self):
        squares((0, 0, 8, 8), 8).append(1)
        self.assertEqual(squares((0, 0, 8, 8), 8), [(0, 0)])

    def test_squares_of_no_size(self):
        for size in (0, -8):
            with self.assertRaises(InvalidNumber) as caught:
                squares((0, 0, 1, 1), size)
            self.assertEqual(caught.exception.value, size)

    def test_gap_in_all_four_directions(self):
        box = (10, 20, 4, 6)
        for dx, dy, other, steps in (
                (1, 0, (17, 20, 2, 2), 3), (1, 0, (14, 25, 2, 2), 0), (1, 0, (17, 26, 2, 2), None),
                (1, 0, (17, 18, 2, 2), None), (1, 0, (7, 20, 2, 2), None),
                (-1, 0, (5, 20, 2, 2), 3), (-1, 0, (8, 20, 2, 2), 0), (-1, 0, (5, 26, 2, 2), None),
                (-1, 0, (17, 20, 2, 2), None),
                (0, 1, (13, 30, 2, 2), 4), (0, 1, (10, 26, 1, 1), 0), (0, 1, (14, 30, 2, 2), None),
                (0, 1, (13, 10, 2, 2), None),
                (0, -1, (8, 10, 3, 2), 8), (0, -1, (10, 18, 1, 2), 0), (0, -1, (7, 10, 3, 2), None),
                (0, -1, (10, 30, 4, 4), None)):
            self.assertEqual(gap(box, other, dx, dy), steps, (dx, dy, other))
            self.assertEqual(gap(one=box, other=other, dx=dx, dy=dy), steps)

    def test_gap_is_nought_where_they_meet_now(self):
        for dx, dy in ((1, 0), (-1, 0), (0, 1), (0, -1)):
            self.assertEqual(gap((0, 0, 4, 4), (3, 3, 2, 2), dx, dy), 0)
            self.assertEqual(gap((0, 0, 4, 4), (1, 1, 1, 1), dx, dy), 0)

    def test_gap_is_what_steps_find(self):
        rng = random.Random(3)
        for _ in range(800):
            one, other = random_box(rng), random_box(rng)
            dx, dy = rng.choice(((1, 0), (-1, 0), (0, 1), (0, -1)))
            wanted = [n for n in range(60) if meet(moved(one, dx * (n + 1), dy * (n + 1)), other)]
            wanted = 0 if meet(one, other) else wanted[0] if wanted else None
            self.assertEqual(gap(one, other, dx, dy), wanted)

    def test_gap_in_no_direction(self):
        for pair in ((0, 0), (1, 1), (2, 0), (0, -2), (-1, 1)):
            with self.assertRaises(InvalidPair) as caught:
                gap((0, 0, 1, 1), (0, 0, 1, 1), pair[0], pair[1])
            self.assertEqual(caught.exception.value, pair)

    def test_around(self):
        self.assertEqual(around([(0, 0, 1, 1), (4, 2, 2, 2)]), (0, 0, 6, 4))
        self.assertEqual(around([(3, -2, 1, 5)]), (3, -2, 1, 5))
        boxes = [(0, 0, 10, 1), (-4, 3, 2, 2), (5, -7, 1, 1)]
        self.assertEqual(around(boxes=boxes), (-4, -7, 14, 12))
        self.assertEqual(boxes, [(0, 0, 10, 1), (-4, 3, 2, 2), (5, -7, 1, 1)])
