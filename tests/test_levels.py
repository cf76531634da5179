"""latepresses.levels."""

import random
import unittest

from samples import crowded_game, random_game

from latepresses.errors import InvalidLevel
from latepresses.levels import blocks, floor_size, is_free, is_game, is_kind, is_level, lands, sign_at

ROWS = ("........", "..=.....", "....^...", "########")
LEVEL = (ROWS, ((0, 0, 2, 16), (1, -1, 10, 16)), 1, 1)
HERO = ("hero", 6, 8, ("bars", "falls", "frail"), (0, 0, 0, 0), ())
CRATE = ("crate", 8, 8, ("bars", "falls", "pushed"), (0, 0, 0, 0), ())
GHOST = ("ghost", 4, 4, (), (0, 0, 0, 0), ())
# Rows of every sign, with air and walls at all rims.
SIGNS = (".#..=...", "..<>....", "^..w..g.", "#....=.#")
FLOOR = (SIGNS, (), 1, 0)


def level(rows=ROWS, starts=(), houses=1, pull=1):
    return (rows, starts, houses, pull)


def kind(name="hero", wide=6, high=8, traits=(), own=(0, 0, 0, 0), rules=()):
    return (name, wide, high, traits, own, rules)


def start_game(*starts, kinds=(HERO, CRATE, GHOST), rows=ROWS):
    return ((rows, starts, 2, 1), kinds)


class TestIsLevel(unittest.TestCase):
    def test_right_levels(self):
        for right in (LEVEL, level(), level(houses=4, pull=0), level(pull=3), FLOOR):
            self.assertIs(is_level(right), True)
        self.assertIs(is_level(told=LEVEL), True)

    def test_how_many_rows_and_signs(self):
        for many, right in ((2, False), (3, True), (16, True), (17, False), (0, False)):
            self.assertIs(is_level(level(rows=("....",) * many)), right)
        for many, right in ((3, False), (4, True), (24, True), (25, False), (0, False)):
            self.assertIs(is_level(level(rows=("." * many,) * 3)), right)

    def test_rows_of_unlike_length(self):
        self.assertIs(is_level(level(rows=("....", "....", "....."))), False)
        self.assertIs(is_level(level(rows=(".....", "....", "...."))), False)

    def test_signs(self):
        for sign in ".#=<>^wg":
            self.assertIs(is_level(level(rows=("....", ".." + sign + ".", "...."))), True)
        for sign in "xW v|1":
            self.assertIs(is_level(level(rows=("....", ".." + sign + ".", "...."))), False)

    def test_houses_and_pull(self):
        for houses, right in ((0, False), (1, True), (4, True), (5, False), (-1, False)):
            self.assertIs(is_level(level(houses=houses)), right)
        for pull, right in ((-1, False), (0, True), (3, True), (4, False)):
            self.assertIs(is_level(level(pull=pull)), right)

    def test_starts(self):
        self.assertIs(is_level(level(starts=((0, 0, 0, 0),) * 12)), True)
        self.assertIs(is_level(level(starts=((0, 0, 0, 0),) * 13)), False)
        for house, right in ((-2, False), (-1, True), (1, True), (2, False)):
            self.assertIs(is_level(level(starts=((0, house, 0, 0),), houses=2)), right)
        self.assertIs(is_level(level(starts=((0, 0, 0, 0), (0, 1, 0, 0)))), False)

    def test_kinds_and_places_of_starts_are_not_looked_at(self):
        for start in ((99, 0, 0, 0), (0, 0, -500, 0), (0, 0, 0, 9999)):
            self.assertIs(is_level(level(starts=(start,))), True)

    def test_other_forms(self):
        for wrong in ((), LEVEL[:3], LEVEL + (1,), level(starts=((0, 0, 0),)), level(starts=((0, 0, 0, 0, 0),))):
            self.assertIs(is_level(wrong), False)


class TestIsKind(unittest.TestCase):
    def test_right_kinds(self):
        for right in (HERO, CRATE, GHOST, kind(rules=(("gone",),))):
            self.assertIs(is_kind(right), True)
        self.assertIs(is_kind(told=HERO), True)

    def test_names(self):
        for name, right in (("a", True), ("abcdefgh", True), ("abcdefghi", False), ("", False), ("zzz", True),
                            ("Hero", False), ("he ro", False), ("hero1", False), ("h-o", False), ("\u00e4", False)):
            self.assertIs(is_kind(kind(name=name)), right, name)

    def test_sizes(self):
        for size, right in ((0, False), (1, True), (16, True), (17, False), (-1, False)):
            self.assertIs(is_kind(kind(wide=size)), right)
            self.assertIs(is_kind(kind(high=size)), right)

    def test_traits(self):
        for traits, right in (
                (("bars",), True), (("falls",), True), (("frail",), True), (("falls", "frail"), True),
                (("bars", "carries", "falls", "frail", "pushed"), True), (("bars", "pushed"), True),
                (("bars", "carries"), True), (("pushed",), False), (("carries",), False),
                (("carries", "falls"), False), (("falls", "pushed"), False), (("falls", "bars"), False),
                (("falls", "falls"), False), (("bars", "flies"), False), (("Bars",), False), (("",), False)):
            self.assertIs(is_kind(kind(traits=traits)), right, traits)

    def test_own_numbers(self):
        for own, right in (((999, -999, 0, 1), True), ((1000, 0, 0, 0), False), ((0, 0, 0, -1000), False),
                           ((0, 0, 0), False), ((0, 0, 0, 0, 0), False), ((), False)):
            self.assertIs(is_kind(kind(own=own)), right)

    def test_rules(self):
        for rules, right in (((("go", ("x",), ("y",)),), True), ((("go", ("x",)),), False), (("gone",), False),
                             ((("gone",),) * 60, True), ((("gone",),) * 61, False),
                             ((("own", 0, ("met", 7)),), True), ((("own", 0, ("met", 8)),), False)):
            self.assertIs(is_kind(kind(rules=rules)), right)

    def test_other_forms(self):
        for wrong in ((), HERO[:5], HERO + ((),)):
            self.assertIs(is_kind(wrong), False)


class TestIsGame(unittest.TestCase):
    def test_right_games(self):
        for right in ((LEVEL, (HERO, CRATE)), start_game(), start_game(kinds=(HERO,))):
            self.assertIs(is_game(right), True)
        self.assertIs(is_game(told=(LEVEL, (HERO, CRATE))), True)
        rng = random.Random(8)
        for _ in range(20):
            self.assertIs(is_game(random_game(rng)), True)
            self.assertIs(is_game(crowded_game(rng)), True)

    def test_wrong_parts(self):
        self.assertIs(is_game((level(pull=4), (HERO,))), False)
        self.assertIs(is_game((level(), (HERO, kind(name="other", wide=0)))), False)
        for wrong in ((), (level(),), (level(), (HERO,), ())):
            self.assertIs(is_game(wrong), False)

    def test_how_many_kinds(self):
        kinds = tuple(kind(name=name) for name in "abcdefghi")
        for many, right in ((0, False), (1, True), (8, True), (9, False)):
            self.assertIs(is_game((level(), kinds[:many])), right)

    def test_names_are_unlike(self):
        self.assertIs(is_game((level(), (kind(name="a"), kind(name="b")))), True)
        self.assertIs(is_game((level(), (kind(name="a"), kind(name="b"), kind(name="a", wide=2)))), False)

    def test_kinds_of_starts(self):
        for index, right in ((-1, False), (0, True), (2, True), (3, False)):
            self.assertIs(is_game(start_game((index, 0, 0, 0))), right)

    def test_starts_are_free_of_walls(self):
        for x, y, right in ((0, 0, True), (-1, 0, False), (0, -1, False), (58, 0, True), (59, 0, False),
                            (0, 16, True), (0, 17, False), (32, 16, True), (15, 5, True)):
            self.assertIs(is_game(start_game((0, 0, x, y))), right, (x, y))

    def test_starts_are_not_wholly_below_the_floor(self):
        rows = ("....", "....", "....")
        for y, right in ((16, True), (23, True), (24, False), (80, False)):
            self.assertIs(is_game(start_game((2, 0, 0, y), rows=rows)), right)

    def test_starts_that_bar_are_not_within_one_another(self):
        for x, right in ((6, True), (5, False), (0, False)):
            self.assertIs(is_game(start_game((0, 0, 0, 0), (0, 0, x, 0))), right)
        self.assertIs(is_game(start_game((0, 0, 0, 0), (2, 0, 0, 0), (2, 0, 1, 1))), True)
        self.assertIs(is_game(start_game((2, 0, 0, 0), (0, 0, 0, 0), (1, 0, 5, 0))), False)

    def test_kinds_in_scripts_are_kinds_of_the_game(self):
        one = ("number", 1)
        for rules in ((("own", 0, ("met", 1)),), (("own", 0, ("met own", 1, 0)),), (("born", 1, one, one, one, one),),
                      (("when", one, (), (("own", 0, ("not", ("met", 1))),)),)):
            self.assertIs(is_game((level(), (kind(name="a", rules=rules),))), False)
            self.assertIs(is_game((level(), (kind(name="a", rules=rules), kind(name="b")))), True)


class TestFloor(unittest.TestCase):
    def test_sign_at(self):
        for y, row in enumerate(SIGNS):
            for x, sign in enumerate(row):
                for dx, dy in ((0, 0), (7, 0), (0, 7), (7, 7)):
                    self.assertEqual(sign_at(FLOOR, 8 * x + dx, 8 * y + dy), sign)
        self.assertEqual(sign_at(level=FLOOR, x=24, y=16), "w")

    def test_sign_at_places_off_the_floor(self):
        for x, y, sign in ((-1, 0, "#"), (64, 0, "#"), (0, -1, "#"), (63, -1, "#"), (0, 32, "."), (63, 32, "."),
                           (20, 999, "."), (-1, 32, "#"), (64, 999, "#"), (-1, -1, "#"), (500, -500, "#")):
            self.assertEqual(sign_at(FLOOR, x, y), sign, (x, y))

    def test_is_free_of_places_off_the_floor(self):
        for box, free in (((0, 20, 4, 4), True), ((-1, 20, 4, 4), False), ((60, 20, 4, 4), True),
                          ((61, 20, 4, 4), False), ((20, 0, 4, 4), True), ((20, -1, 4, 4), False),
                          ((20, 30, 4, 4), True), ((20, 32, 4, 4), True), ((20, 99, 4, 4), True),
                          ((-1, 99, 4, 4), False), ((61, 99, 4, 4), False), ((70, 99, 4, 4), False),
                          ((-9, 40, 4, 4), False), ((20, -9, 4, 4), False)):
            self.assertIs(is_free(FLOOR, box), free, box)
        self.assertIs(is_free(level=FLOOR, box=(0, 20, 4, 4)), True)

    def test_is_free_by_units(self):
        rng = random.Random(9)
        for _ in range(800):
            x, y, wide, high = rng.randint(-9, 70), rng.randint(-9, 40), rng.randint(1, 16), rng.randint(1, 16)
            units = [(a, b) for a in range(x, x + wide) for b in range(y, y + high)]
            free = not any(sign_at(FLOOR, a, b) in "#<>" for a, b in units)
            self.assertIs(is_free(FLOOR, (x, y, wide, high)), free)

    def test_lands_on_walls(self):
        for box, held in (((8, 8, 8, 8), False), ((16, 0, 8, 8), True), ((8, 9, 8, 8), False),
                          ((24, 0, 4, 7), False), ((24, 0, 4, 8), True), ((0, 16, 4, 8), True), ((8, 16, 4, 8), False)):
            self.assertIs(lands(FLOOR, box), held, box)
        self.assertIs(lands(level=FLOOR, box=(16, 0, 8, 8)), True)

    def test_lands_on_ledges_from_above_alone(self):
        # The ledges' upper sides are at 24 (over 40 to 47) and at 0 (over 32 to 39).
        for box, held in (((40, 16, 8, 8), True), ((40, 17, 8, 8), False), ((40, 15, 8, 8), False),
                          ((40, 20, 8, 8), False), ((33, 16, 8, 8), True), ((32, 16, 8, 8), False),
                          ((47, 23, 1, 1), True), ((48, 23, 1, 1), False), ((40, 24, 8, 8), False),
                          ((32, 0, 8, 4), False)):
            self.assertIs(lands(FLOOR, box), held, box)

    def test_lands_beside_and_below_the_floor(self):
        for box, held in (((16, 24, 8, 8), False), ((16, 30, 8, 8), False), ((16, 99, 8, 8), False),
                          ((-1, 99, 8, 8), True), ((60, 99, 8, 8), True), ((-1, 10, 4, 4), True),
                          ((20, -1, 4, 4), False), ((20, -2, 4, 4), True)):
            self.assertIs(lands(FLOOR, box), held, box)

    def test_sizes(self):
        self.assertEqual(floor_size(FLOOR), (64, 32))
        self.assertEqual(floor_size(level=level(rows=("." * 24,) * 16)), (192, 128))
        for wide, high, counts in ((4, 3, (1, 1)), (4, 4, (1, 1)), (5, 4, (1, 2)), (8, 5, (2, 2)), (9, 8, (2, 3)),
                                   (24, 16, (4, 6)), (23, 13, (4, 6))):
            self.assertEqual(blocks(level(rows=("." * wide,) * high)), counts)
        self.assertEqual(blocks(level=FLOOR), (1, 2))

    def test_each_names_what_is_no_level(self):
        for wrong in (level(pull=4), level(rows=("....",) * 2), level(starts=((0, 1, 0, 0),)), ()):
            for call in (lambda it: sign_at(it, 0, 0), lambda it: is_free(it, (0, 0, 1, 1)),
                         lambda it: lands(it, (0, 0, 1, 1)), floor_size, blocks):
                with self.assertRaises(InvalidLevel) as caught:
                    call(wrong)
                self.assertEqual(caught.exception.value, wrong)
