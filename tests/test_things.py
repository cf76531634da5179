"""latepresses.things."""

import unittest

from latepresses.errors import InvalidGame, InvalidKind, InvalidNumber, InvalidThing
from latepresses.things import born, box_of, has, is_thing, middle, under

ROWS = ("....", "....", "....")
KINDS = (("hero", 7, 5, ("bars", "falls"), (1, -2, 3, -4), ()), ("dot", 1, 1, (), (0, 0, 0, 0), ()))
GAME = ((ROWS, (), 2, 1), KINDS)
THING = (0, 1, 10, 12, 3, -7, -2, (1, 2, 3, 4))
WRONG_GAME = ((ROWS, (), 5, 1), KINDS)
WRONG_THING = (2, 0, 0, 0, 0, 0, -2, (0, 0, 0, 0))


def changed(at, part):
    return THING[:at] + (part,) + THING[at + 1:]


class TestIsThing(unittest.TestCase):
    def test_the_ends_of_each_range(self):
        for at, low, high in ((0, 0, 1), (1, -1, 1), (4, -7, 7), (5, -7, 7), (6, -2, 15)):
            for part in range(low - 2, high + 3):
                self.assertIs(is_thing(GAME, changed(at, part)), low <= part <= high, (at, part))

    def test_it_may_stand_anywhere(self):
        for place in (-10 ** 6, -1, 0, 31, 32, 10 ** 6):
            self.assertIs(is_thing(GAME, changed(2, place)), True)
            self.assertIs(is_thing(game=GAME, told=changed(3, place)), True)

    def test_own_numbers(self):
        for own, right in (((999, -999, 0, 0), True), ((1000, 0, 0, 0), False), ((0, 0, 0, -1000), False),
                           ((0, 0, 0), False), ((0,) * 5, False), ((), False)):
            self.assertIs(is_thing(GAME, changed(7, own)), right)

    def test_other_forms(self):
        for wrong in ((), THING[:7], THING + (0,)):
            self.assertIs(is_thing(GAME, wrong), False)


class TestThings(unittest.TestCase):
    def test_box_of(self):
        self.assertEqual(box_of(GAME, THING), (10, 12, 7, 5))
        self.assertEqual(box_of(game=GAME, thing=changed(0, 1)), (10, 12, 1, 1))

    def test_has(self):
        for trait, had in (("bars", True), ("falls", True), ("carries", False), ("frail", False), ("pushed", False)):
            self.assertIs(has(GAME, THING, trait), had)
            self.assertIs(has(game=GAME, thing=changed(0, 1), trait=trait), False)

    def test_born(self):
        self.assertEqual(born(GAME, 0, -1, -5, 900, 7, -7), (0, -1, -5, 900, 7, -7, -2, (1, -2, 3, -4)))
        self.assertEqual(born(GAME, 1, 1, 3, 4, 8, -8), (1, 1, 3, 4, 7, -7, -2, (0, 0, 0, 0)))
        self.assertEqual(born(game=GAME, kind=0, house=0, x=1, y=2, dx=-900, dy=900),
                         (0, 0, 1, 2, -7, 7, -2, (1, -2, 3, -4)))

    def test_middle_and_under(self):
        self.assertEqual((middle(GAME, THING), under(GAME, THING)), ((13, 14), (13, 17)))
        dot = changed(0, 1)
        self.assertEqual((middle(game=GAME, thing=dot), under(game=GAME, thing=dot)), ((10, 12), (10, 13)))
        even = ((ROWS, (), 2, 1), (("even", 8, 6, (), (0, 0, 0, 0), ()),))
        self.assertEqual((middle(even, THING), under(even, THING)), ((14, 15), (14, 18)))
        self.assertEqual(middle(GAME, changed(2, -4)), (-1, 14))


class TestErrors(unittest.TestCase):
    def test_a_game_that_is_none_comes_first(self):
        for call in (lambda: is_thing(WRONG_GAME, THING), lambda: box_of(WRONG_GAME, WRONG_THING),
                     lambda: has(WRONG_GAME, WRONG_THING, "flies"), lambda: born(WRONG_GAME, 9, 9, 0, 0, 0, 0),
                     lambda: middle(WRONG_GAME, WRONG_THING), lambda: under(WRONG_GAME, WRONG_THING)):
            with self.assertRaises(InvalidGame) as caught:
                call()
            self.assertEqual(caught.exception.value, WRONG_GAME)

    def test_then_a_thing_that_is_none(self):
        for call in (box_of, middle, under, lambda game, thing: has(game, thing, "flies")):
            with self.assertRaises(InvalidThing) as caught:
                call(GAME, WRONG_THING)
            self.assertEqual(caught.exception.value, WRONG_THING)

    def test_then_a_trait_or_a_kind_that_there_is_not(self):
        for trait in ("flies", "", "Bars"):
            with self.assertRaises(InvalidKind) as caught:
                has(GAME, THING, trait)
            self.assertEqual(caught.exception.value, trait)
        for kind in (-1, 2, 7):
            with self.assertRaises(InvalidKind) as caught:
                born(GAME, kind, 9, 0, 0, 0, 0)
            self.assertEqual(caught.exception.value, kind)

    def test_then_a_house_that_there_is_not(self):
        for house in (-2, 2, 4):
            with self.assertRaises(InvalidNumber) as caught:
                born(GAME, 0, house, 0, 0, 0, 0)
            self.assertEqual(caught.exception.value, house)
