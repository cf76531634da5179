"""What expressions give and deeds do in latepresses.scripts."""

import random
import unittest

from samples import random_expression, random_reads, random_script
from slow_engine import run_script

from latepresses.scripts import number_of, plain_run, wants

NUMBERS = tuple(range(100, 116))
MET = ((2, 1, 0, (5, 6, 7, 8)), (4, 0, -1, (1, 2, 3, 4)), (9, 1, 1, (9, 9, 9, 9)))


def n(number):
    return ("number", number)


def reads(thing=(0, 1, 30, 40, 3, -4, -1, (10, 20, 30, 40)), press=0, seed=7, here=".", below="#"):
    return (thing, press, NUMBERS, seed, MET, here, below)


def value(expression, **told):
    return number_of(expression, reads(**told))[0]


BIG = ("times", n(9999), n(9999))
SMALL = ("times", n(9999), n(-9999))


class TestNumbers(unittest.TestCase):
    def test_of_the_thing(self):
        for expression, number in ((n(-9999), -9999), (("own", 0), 10), (("own", 3), 40), (("mark", 0), 100),
                                   (("mark", 15), 115), (("x",), 30), (("y",), 40), (("dx",), 3), (("dy",), -4)):
            self.assertEqual(number_of(expression, reads()), (number, 7))

    def test_by_name(self):
        self.assertEqual(number_of(expression=n(3), reads=reads()), (3, 7))
        self.assertEqual(plain_run(script=(), reads=reads())[:2], (3, -4))

    def test_rests(self):
        for rest, number in ((-2, 0), (-1, 1), (0, 1), (15, 1)):
            thing = (0, 1, 30, 40, 3, -4, rest, (0, 0, 0, 0))
            self.assertEqual(value(("rests",), thing=thing), number)

    def test_held(self):
        for press in range(64):
            for bit in range(6):
                self.assertEqual(value(("held", bit), press=press), 1 if press & (1, 2, 4, 8, 16, 32)[bit] else 0)

    def test_met(self):
        for kind, number in ((0, 1), (1, 2), (2, 0), (7, 0)):
            self.assertEqual(value(("met", kind)), number)
        for kind, at, number in ((1, 0, 5), (1, 3, 8), (0, 2, 3), (2, 0, 0)):
            self.assertEqual(value(("met own", kind, at)), number)

    def test_signs(self):
        for sign in ".#=<>^wg":
            for shown in ".#=<>^wg":
                self.assertEqual(value(("here", sign), here=shown, below="x"), int(sign == shown))
                self.assertEqual(value(("under", sign), here="x", below=shown), int(sign == shown))

    def test_drawn(self):
        self.assertEqual(number_of(("drawn", 99), reads(seed=7)), (599 % 99, 599))
        self.assertEqual(number_of(("drawn", 1), reads(seed=0)), (0, 74))
        self.assertEqual(number_of(("drawn", 10), reads(seed=65536)), (6, 65536))
        behind = (75 * 599 + 74) % 65537
        self.assertEqual(number_of(("less", ("drawn", 99), ("drawn", 99)), reads(seed=7)),
                         (599 % 99 - behind % 99, behind))

    def test_the_seed_handed_in_comes_back_where_none_is_drawn(self):
        self.assertEqual(number_of(n(1), reads(seed=None)), (1, None))
        self.assertEqual(number_of(n(1), reads(seed=65536)), (1, 65536))

    def test_reckoning(self):
        for name, a, b, number in (
                ("sum", 3, -5, -2), ("less", 3, -5, 8), ("times", 3, -5, -15), ("least", 3, -5, -5),
                ("most", 3, -5, 3), ("same", 3, 3, 1), ("same", 3, -3, 0), ("below", 3, 4, 1), ("below", 3, 3, 0),
                ("below", 4, 3, 0), ("both", 2, -1, 1), ("both", 0, 1, 0), ("both", 1, 0, 0), ("both", 0, 0, 0),
                ("either", 0, 0, 0), ("either", -3, 0, 1), ("either", 0, 5, 1), ("either", 5, 5, 1)):
            self.assertEqual(value((name, n(a), n(b))), number, (name, a, b))
        for a, number in ((0, 1), (1, 0), (-1, 0), (9999, 0)):
            self.assertEqual(value(("not", n(a))), number)

    def test_floor_division_and_its_rest(self):
        for a, b, part, rest in ((7, 2, 3, 1), (-7, 2, -4, 1), (7, -2, -4, -1), (-7, -2, 3, -1), (6, 3, 2, 0),
                                 (-6, 3, -2, 0), (0, 5, 0, 0), (7, 0, 0, 0), (-7, 0, 0, 0), (0, 0, 0, 0),
                                 (3, 7, 0, 3), (-3, 7, -1, 4)):
            self.assertEqual(value(("part", n(a), n(b))), part, (a, b))
            self.assertEqual(value(("rest", n(a), n(b))), rest, (a, b))

    def test_each_number_is_kept_within_its_range(self):
        self.assertEqual(value(BIG), 999999)
        self.assertEqual(value(SMALL), -999999)
        self.assertEqual(value(("sum", BIG, n(1))), 999999)
        self.assertEqual(value(("less", SMALL, n(1))), -999999)
        self.assertEqual(value(("less", BIG, n(1))), 999998)
        self.assertEqual(value(("less", ("sum", BIG, n(5)), n(5))), 999994)
        self.assertEqual(value(("times", ("times", n(1000), n(1000)), n(-1))), -999999)
        self.assertEqual(value(("times", n(1001), n(999))), 999999)
        self.assertEqual(value(("times", n(999), n(1000))), 999000)
        self.assertEqual(value(("part", SMALL, n(-1))), 999999)
        far = (0, 1, 5000000, -5000000, 0, 0, -2, (0, 0, 0, 0))
        self.assertEqual((value(("x",), thing=far), value(("y",), thing=far)), (999999, -999999))

    def test_sides_are_found_in_order(self):
        first, second = 599, (75 * 599 + 74) % 65537
        for name in ("sum", "less", "times", "least", "most", "part", "rest", "below"):
            drawn = (name, ("drawn", 99), ("drawn", 98))
            plain = (name, n(first % 99), n(second % 98))
            self.assertEqual(number_of(drawn, reads(seed=7)), (value(plain), second), name)

    def test_both_sides_are_found_whatever_the_first_is(self):
        second = (75 * 599 + 74) % 65537
        for name in ("both", "either"):
            for first in (("times", n(0), ("drawn", 9)), ("sum", n(1), ("drawn", 1))):
                self.assertEqual(number_of((name, first, ("drawn", 9)), reads(seed=7))[1], second)

    def test_just_one_side_of_a_pick_is_found(self):
        for chosen, number in ((1, 11), (-5, 11), (0, 22)):
            told = ("pick", n(chosen), ("sum", n(11), ("times", n(0), ("drawn", 3))), n(22))
            self.assertEqual(number_of(told, reads(seed=7)), (number, 599 if chosen else 7))
            told = ("pick", n(chosen), n(11), ("sum", n(22), ("times", n(0), ("drawn", 3))))
            self.assertEqual(number_of(told, reads(seed=7)), (number, 7 if chosen else 599))
        self.assertEqual(number_of(("pick", ("drawn", 9), ("drawn", 9), ("drawn", 9)), reads(seed=7))[1],
                         (75 * 599 + 74) % 65537)


class TestRuns(unittest.TestCase):
    def test_a_run_of_nothing(self):
        self.assertEqual(plain_run((), reads()), (3, -4, (10, 20, 30, 40), (), None, (), False))

    def test_own_numbers_are_set_and_kept(self):
        for number, kept in ((999, 999), (1000, 999), (-999, -999), (-1000, -999), (0, 0)):
            self.assertEqual(plain_run((("own", 2, n(number)),), reads())[2], (10, 20, kept, 40))

    def test_marks_are_set_and_kept_and_told_ascending(self):
        script = (("mark", 9, n(1000)), ("mark", 3, n(-2000)), ("mark", 9, ("less", ("mark", 9), n(1))),
                  ("mark", 15, ("mark", 15)))
        self.assertEqual(plain_run(script, reads())[3], ((3, -999), (9, 998), (15, 115)))

    def test_ways_are_set_and_kept(self):
        for a, b, way in ((7, -7, (7, -7)), (8, -8, (7, -7)), (-9999, 9999, (-7, 7)), (0, 0, (0, 0))):
            self.assertEqual(plain_run((("go", n(a), n(b)),), reads())[:2], way)

    def test_both_numbers_of_go_are_found_ahead_of_it(self):
        self.assertEqual(plain_run((("go", ("dy",), ("dx",)),), reads())[:2], (-4, 3))

    def test_what_was_set_is_read_by_what_comes_behind(self):
        script = (("own", 0, n(2000)), ("mark", 4, ("sum", ("own", 0), n(-990))), ("go", ("mark", 4), n(99)),
                  ("own", 1, ("sum", ("dx",), ("times", ("dy",), n(10)))), ("own", 2, ("own", 1)))
        self.assertEqual(plain_run(script, reads()), (7, 7, (999, 77, 77, 40), ((4, 9),), None, (), False))

    def test_where_it_stands_and_rests_stays_as_it_was(self):
        script = (("go", n(5), n(5)), ("own", 0, ("x",)), ("own", 1, ("y",)), ("own", 2, ("rests",)))
        self.assertEqual(plain_run(script, reads())[2], (30, 40, 1, 40))

    def test_the_last_seed_is_told(self):
        self.assertEqual(plain_run((("own", 0, ("drawn", 99)), ("own", 1, ("drawn", 99))), reads(seed=7))[4],
                         (75 * 599 + 74) % 65537)
        self.assertEqual(plain_run((("when", n(0), (("own", 0, ("drawn", 9)),), ()),), reads(seed=7))[4], None)
        self.assertEqual(plain_run((("own", 0, ("drawn", 9)),), reads(seed=65536))[4], 65536)

    def test_when(self):
        for number, own in ((1, 5), (-1, 5), (0, 6)):
            script = (("when", n(number), (("own", 0, n(5)),), (("own", 0, n(6)),)),)
            self.assertEqual(plain_run(script, reads())[2][0], own)

    def test_when_within_when(self):
        def told(a, b):
            within = ("when", n(b), (("own", 0, n(1)), ("own", 1, n(1))), (("own", 0, n(2)),))
            return (("when", n(a), (within, ("own", 2, n(3))), (("own", 0, n(4)), within)), ("own", 3, ("own", 0)))
        for a, b, own in ((1, 1, (1, 1, 3, 1)), (1, 0, (2, 20, 3, 2)), (0, 1, (1, 1, 30, 1)), (0, 0, (2, 20, 30, 2))):
            self.assertEqual(plain_run(told(a, b), reads())[2], own)

    def test_births_are_kept_within_their_ranges(self):
        script = (("born", 7, n(64), n(-64), n(7), n(-7)), ("born", 0, n(65), n(-65), n(8), n(-8)))
        self.assertEqual(plain_run(script, reads())[5], ((7, 64, -64, 7, -7), (0, 64, -64, 7, -7)))

    def test_no_birth_beyond_the_second_but_its_numbers_are_found(self):
        one = ("born", 1, n(1), n(2), n(3), n(4))
        drawn = ("born", 2, ("drawn", 9), ("drawn", 9), ("drawn", 9), ("drawn", 9))
        told = plain_run((one, one, drawn, ("own", 0, n(1))), reads(seed=7))
        seed = 7
        for _ in range(4):
            seed = (75 * seed + 74) % 65537
        self.assertEqual(told, (3, -4, (1, 20, 30, 40), (), seed, ((1, 1, 2, 3, 4),) * 2, False))

    def test_the_numbers_of_a_birth_are_found_in_order(self):
        seeds = [599]
        for _ in range(3):
            seeds.append((75 * seeds[-1] + 74) % 65537)
        told = plain_run((("born", 2, ("drawn", 9), ("drawn", 9), ("drawn", 5), ("drawn", 5)),), reads(seed=7))
        self.assertEqual(told[5], ((2, seeds[0] % 9, seeds[1] % 9, seeds[2] % 5, seeds[3] % 5),))

    def test_deeds_behind_gone_are_done(self):
        script = (("gone",), ("own", 0, n(1)), ("mark", 1, n(2)), ("born", 0, n(0), n(0), n(0), n(0)), ("gone",))
        self.assertEqual(plain_run(script, reads()),
                         (3, -4, (1, 20, 30, 40), ((1, 2),), None, ((0, 0, 0, 0, 0),), True))

    def test_what_is_not_wanted_need_not_be_there(self):
        thing = (0, -1, 5, 6, 1, 2, -2, (1, 2, 3, 4))
        marks = tuple(8 if at == 3 else None for at in range(16))
        told = plain_run((("mark", 3, ("sum", ("mark", 3), ("x",))),), (thing, 0, marks, None, (), "#", "#"))
        self.assertEqual(told, (1, 2, (1, 2, 3, 4), ((3, 13),), None, (), False))


class TestAgainstAnotherEngine(unittest.TestCase):
    def test_random_scripts(self):
        rng = random.Random(5)
        for _ in range(1500):
            script, told = random_script(rng, 4), random_reads(rng)
            self.assertEqual(plain_run(script, told), run_script(script, told))

    def test_a_run_reads_just_what_is_wanted(self):
        rng = random.Random(6)
        for _ in range(500):
            script, told = random_script(rng, 4), random_reads(rng)
            marks, seed, met = wants(script)
            less = (*told[:2], tuple(told[2][at] if at in marks else None for at in range(16)),
                    told[3] if seed else None, told[4] if met else (), *told[5:])
            self.assertEqual(plain_run(script, told), plain_run(script, less))

    def test_random_expressions_stay_within_the_range(self):
        rng = random.Random(7)
        for _ in range(1000):
            told = number_of(random_expression(rng, 4, 5), random_reads(rng))
            self.assertTrue(-999999 <= told[0] <= 999999 and 0 <= told[1] <= 65536)
