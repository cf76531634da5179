"""latepresses.texts."""

import random
import unittest

from samples import first, n, played_game, random_presses, random_rows_of_presses

from latepresses.cells import first_world
from latepresses.sums import thing_sum
from latepresses.texts import (show_expression, show_game, show_letter, show_paper, show_rows, show_script, show_world)
from latepresses.ticks import run, tick

GAME = played_game(2)


def random_untold_rows(rng):
    """Rows of one to four presses, some of them untold."""
    houses = rng.randint(1, 4)
    return tuple(tuple(rng.choice((None, rng.randrange(64), rng.randrange(64))) for _ in range(houses))
                 for _ in range(rng.randrange(6)))


def random_letter(rng):
    row = tuple(rng.randrange(64) for _ in range(rng.choice((0, 0, 1, 2, 5, 32))))
    begin = rng.choice((0, rng.randrange(400), rng.randrange(10 ** 9 - 40)))
    return (rng.randrange(6), begin, row, rng.choice((None, begin + len(row), begin + len(row) + rng.randrange(8))),
            tuple(rng.randrange(60) for _ in range(rng.randint(1, 4))))


def random_paper(rng, game):
    """A paper of some ticks, with some right sums and some that are not."""
    world = first_world(game, rng.randrange(65537))
    rows = random_rows_of_presses(rng, game, rng.randrange(6))
    worlds = run(game, world, rows)
    cells = list(worlds[-1])
    for _ in range(rng.randrange(4)):
        cells[33 + rng.randrange(16)] = rng.randint(-999, 999)
    marks = tuple((at, rng.choice((thing_sum(worlds[at]), rng.randint(-10 ** 19 + 1, 10 ** 19 - 1))))
                  for at in range(len(rows) + 1) if rng.random() < 0.6)
    return (tuple(cells), rows, marks)


class TestScripts(unittest.TestCase):
    def test_expressions(self):
        for expression, told in ((n(0), "0"), (n(-9999), "-9999"), (("x",), "(x)"), (("rests",), "(rests)"),
                                 (("own", 3), "(own 3)"), (("held", 0), "(held 0)"), (("met", 7), "(met 7)"),
                                 (("met own", 1, 2), "(met own 1 2)"), (("here", "."), "(here .)"),
                                 (("under", "<"), "(under <)"), (("drawn", 99), "(drawn 99)"),
                                 (("not", n(1)), "(not 1)"),
                                 (("sum", n(1), ("less", ("y",), n(-2))), "(sum 1 (less (y) -2))"),
                                 (("pick", ("mark", 4), n(1), ("dy",)), "(pick (mark 4) 1 (dy))")):
            self.assertEqual(show_expression(expression), told)
        self.assertEqual(show_expression(expression=n(7)), "7")

    def test_expressions_of_great_depth(self):
        expression, told = n(1), "1"
        for _ in range(99):
            expression, told = ("not", expression), f"(not {told})"
        self.assertEqual(show_expression(expression), told)

    def test_deeds(self):
        for deed, told in ((("own", 3, n(5)), "own 3 = 5"), (("mark", 15, ("x",)), "mark 15 = (x)"),
                           (("go", n(-1), ("dy",)), "go -1 (dy)"),
                           (("born", 2, n(1), ("x",), n(-3), ("y",)), "born 2 at 1 (x) by -3 (y)"), (("gone",), "gone"),
                           (("when", n(1), (), ()), "when 1\nend")):
            self.assertEqual(show_script((deed,)), told)
        self.assertEqual(show_script(()), "")
        self.assertEqual(show_script(script=(("gone",), ("gone",))), "gone\ngone")

    def test_blocks(self):
        gone = ("gone",)
        inner = ("when", ("x",), (), (gone,))
        self.assertEqual(show_script((("when", n(1), (inner, gone), (gone, inner)), gone)).split("\n"),
                         ["when 1", "  when (x)", "  else", "    gone", "  end", "  gone", "else", "  gone",
                          "  when (x)", "  else", "    gone", "  end", "end", "gone"])
        self.assertEqual(show_script((("when", n(1), (gone,), ()),)), "when 1\n  gone\nend")


class TestOthers(unittest.TestCase):
    def test_rows(self):
        for rows, told in (((), "-"), (((0,),), "0"), (((0, 63), (None, 5)), "0,63 ?,5"),
                           (((None,), (7,), (None,)), "? 7 ?")):
            self.assertEqual(show_rows(rows), told)
        self.assertEqual(show_rows(rows=((1, 2, 3, 4),)), "1,2,3,4")

    def test_letters(self):
        for letter, told in (((0, 4, (1, 0), None, (4, 2)), "0 4 - 1,0 4,2"), ((5, 0, (), 0, (7,)), "5 0 0 - 7"),
                             ((1, 9, (63,), 12, (0, 0, 1, 33)), "1 9 12 63 0,0,1,33")):
            self.assertEqual(show_letter(letter), told)
        self.assertEqual(show_letter(letter=(0, 0, (), None, (0,))), "0 0 - - 0")

    def test_worlds(self):
        world = first(GAME, 9)
        self.assertEqual(show_world(world).split("\n"),
                         ["slot 0: 0 0 18 0 0 0 -1 0 0 0 0", "slot 1: 0 1 60 0 0 0 -1 0 0 0 0",
                          "slot 2: 1 -1 28 40 0 0 -1 0 0 0 0", "slot 3: 2 -1 76 43 0 0 -1 0 0 0 0",
                          "slot 4: 1 -1 77 35 0 0 3 0 0 0 0", "slot 5: 4 -1 3 34 0 0 -2 0 0 0 0",
                          "slot 6: 0 1 4 40 0 0 -1 0 0 0 0", "seed 9"])
        world = list(world)
        world[3:5] = [None, (0, 1, 77, 35, -7, 7, 15, (1, -2, 3, -999))]
        world[16], world[22], world[33], world[48], world[32] = (1, 15), (2,), -5, 999, 0
        told = show_world(world=tuple(world)).split("\n")
        self.assertEqual(told[3:4] + told[6:], ["slot 4: 0 1 77 35 -7 7 15 1 -2 3 -999", "met 0: 1 15", "met 6: 2",
                                                "seed 0", "mark 0: -5", "mark 15: 999"])
        self.assertEqual(show_world((None,) * 16 + ((),) * 16 + (3,) + (0,) * 16 + ((),)), "seed 3")

    def test_games(self):
        kinds = (("a", 16, 1, (), (1, -2, 3, 999), (("when", n(1), (("gone",),), ()),)),
                 ("bcd", 6, 8, ("bars", "falls"), (0, 0, 0, 0), ()))
        game = ((("....", ".<>.", "#=^w"), ((1, -1, 3, 4), (0, 2, 5, 6)), 3, 2), kinds)
        self.assertEqual(show_game(game).split("\n"),
                         ["houses 3 pull 2", "|....", "|.<>.", "|#=^w", "start 1 -1 3 4", "start 0 2 5 6",
                          "kind a 16 1 - 1 -2 3 999", "  when 1", "    gone", "  end", "end",
                          "kind bcd 6 8 bars,falls 0 0 0 0", "end"])
        self.assertEqual(show_game(game=((("....",) * 3, (), 1, 0), kinds[1:])).split("\n"),
                         ["houses 1 pull 0", "|....", "|....", "|....", "kind bcd 6 8 bars,falls 0 0 0 0", "end"])

    def test_papers(self):
        world = first(GAME, 9)
        self.assertEqual(show_paper((world, ((1, 2), (3, 4)), ((0, 5), (2, -6)))),
                         show_world(world) + "\nrows 1,2 3,4\nsum 0 5\nsum 2 -6")
        self.assertEqual(show_paper(paper=(world, (), ())), show_world(world) + "\nrows -")

    def test_buckets_are_not_shown_and_no_line_is_empty(self):
        rng = random.Random(141)
        world = first(GAME)
        for _ in range(20):
            world = tick(GAME, world, random_presses(rng, GAME))
            told = show_world(world)
            self.assertEqual(show_world(world[:49]), told)
            self.assertNotIn("", told.split("\n"))


if __name__ == "__main__":
    unittest.main()
