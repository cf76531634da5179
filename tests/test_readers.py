"""latepresses.readers: texts that show something, and texts that show nothing."""

import random
import unittest

import slow_readers as slow
from cases import Case
from samples import crowded_game, first, n, played_game, random_game, random_presses, random_script

from latepresses.cells import first_world, is_world
from latepresses.errors import Unreadable
from latepresses.levels import is_game
from latepresses.readers import read_game, read_letter, read_paper, read_rows, read_script, read_world
from latepresses.scripts import depth_of, is_script, size_of
from latepresses.texts import show_game, show_letter, show_paper, show_rows, show_script, show_world
from latepresses.ticks import last
from test_texts import random_letter, random_paper, random_untold_rows

GAME = played_game(2)
ROWS = ("|....", "|....", "|####")
KIND = ("kind a 8 8 bars 0 0 0 0", "end")


def text(*lines):
    return "\n".join(lines)


class Reading(Case):
    def wrong(self, number, read, *told):
        """What is read is unreadable from the line of this number on."""
        self.raises(Unreadable, number, read, *told)

    def reads(self, read, told, thing):
        found = read(told)
        self.assertEqual(found, thing)
        self.assertEqual(repr(found), repr(thing))


class TestScripts(Reading):
    def test_to_and_fro(self):
        rng = random.Random(131)
        for _ in range(300):
            script = random_script(rng, 4)
            self.reads(read_script, show_script(script), script)
        self.reads(read_script, "", ())
        self.assertEqual(read_script(text="gone"), (("gone",),))

    def test_each_expression(self):
        for told, thing in (("5", n(5)), ("-9999", n(-9999)), ("(own 3)", ("own", 3)), ("(mark 15)", ("mark", 15)),
                            ("(x)", ("x",)), ("(rests)", ("rests",)), ("(held 5)", ("held", 5)),
                            ("(met 7)", ("met", 7)), ("(met own 7 3)", ("met own", 7, 3)), ("(here #)", ("here", "#")),
                            ("(under g)", ("under", "g")), ("(drawn 99)", ("drawn", 99)), ("(not 0)", ("not", n(0))),
                            ("(pick (y) 1 (dx))", ("pick", ("y",), n(1), ("dx",)))):
            self.reads(read_script, "own 0 = " + told, (("own", 0, thing),))
            for wrong in (told + " ", " " + told, told + ")", "(" + told, told.replace(" ", "  "), told[:-1] + " )",
                          told.replace("(", "( ")):
                if wrong != told:
                    self.wrong(1, read_script, "own 0 = " + wrong)

    def test_wrong_expressions(self):
        for wrong in ("", "(", ")", "()", "(5)", "(number 5)", "x", "(z)", "(own)", "(own 4)", "(own -1)", "(own 0 0)",
                      "(own (x))", "(mark 16)", "(held 6)", "(met 8)", "(met own 1)", "(met own 1 4)", "(met 1 2)",
                      "(met own)", "(met)", "(here x)", "(here)", "(here (x))", "(here ..)", "(here 5)", "(drawn 0)",
                      "(drawn 100)", "10000", "-10000", "+1", "-0", "01", "1_0", "1.0", "(sum 1)", "(sum 1 2 3)",
                      "(sum 1 2))", "(x)(y)", "(when 1)", "(go 1 2)", "(pick 1 2)", "((x))", "(X)", "((x) 1)", "1 2",
                      "\u0663", "\u00b2", "(x\t)", "999999999", "9999999999", "-", "--1", "(sum (x (y)) 1)",
                      "(met own1 2)", "(metown 1 2)"):
            self.wrong(1, read_script, "own 0 = " + wrong)
            self.wrong(2, read_script, text("gone", "own 0 = " + wrong))

    def test_wrong_deeds(self):
        for wrong in (" ", " gone", "gone ", "Gone", "goes", "gone 1", "own 0 =", "own 0 1", "own 0 == 1", "own 0  = 1",
                      "own 4 = 1", "own 00 = 1", "own = 1", "own (x) = 1", "own 0 at 1", "mark 16 = 1", "mark 1 1",
                      "mark -1 = 1", "go 1", "go 1 2 3", "go 1  2", "go (x)(y)", "go 1 by 2", "go = 1 2", "go  1 2",
                      "born 0 at 1 2 by 3", "born 0 at 1 2 3 4", "born 0 1 2 by 3 4", "born 8 at 1 2 by 3 4",
                      "born 0 by 1 2 at 3 4", "born 0 at 1 2 by 3 4 ", "born 0 at 1 by 2 3 4", "born (x) at 1 2 by 3 4",
                      "when", "when ", "when 1 2", "when 1 then", "when gone", "else", "end", "(gone)", "gone)",
                      "\tgone", "  gone", "=", "at", "by", "if 1", "when (x", "x"):
            self.wrong(1, read_script, wrong)
            self.wrong(3, read_script, text("gone", "go 1 2", wrong))

    def test_blocks(self):
        for lines, script in ((("when 1", "end"), (("when", n(1), (), ()),)),
                              (("when 1", "else", "  gone", "end"), (("when", n(1), (), (("gone",),)),)),
                              (("when 1", "  when 2", "  end", "else", "  when 3", "    gone", "  end", "end", "gone"),
                               (("when", n(1), (("when", n(2), (), ()),), (("when", n(3), (("gone",),), ()),)),
                                ("gone",)))):
            self.reads(read_script, text(*lines), script)
            for many in range(1, len(lines)):
                if lines[many - 1] != "end":
                    self.wrong(many + 1, read_script, text(*lines[:many]))
        for number, *lines in ((3, "when 1", "else", "end"), (4, "when 1", "else", "  gone", "else"),
                               (3, "when 1", "end", "end"), (3, "when 1", "end", "else"), (2, "when 1", "gone", "end"),
                               (2, "when 1", "    gone", "end"), (2, "when 1", "  end"), (2, "when 1", "  else"),
                               (3, "when 1", "  when 2", "end"), (3, "when 1", "  when 2", "else"),
                               (3, "when 1", "  when 2", "  gone"), (1, "  gone"), (2, "when 1", "", "end"),
                               (2, "gone", ""), (4, "when 1", "  gone", "end", ""), (2, "when 1", " end"),
                               (2, "when 1", "end "), (2, "when 1", "else "), (3, "when 1", "else", "gone"),
                               (3, "when 1", "else", "else")):
            self.wrong(number, read_script, text(*lines))

    def test_60_and_61_things(self):
        lines = ["gone"] * 60
        self.assertEqual(read_script(text(*lines)), (("gone",),) * 60)
        self.wrong(61, read_script, text(*lines, "gone"))
        self.wrong(60, read_script, text(*lines[:59], "own 0 = 1"))
        self.assertEqual(size_of(read_script(text(*lines[:58], "own 0 = 1"))), 60)
        self.assertEqual(size_of(read_script(text(*lines[:58], "when 1", "end"))), 60)
        self.assertEqual(size_of(read_script(text(*lines[:57], "when 1", "  gone", "end"))), 60)
        self.assertEqual(size_of(read_script(text(*lines[:57], "when 1", "else", "  gone", "end"))), 60)
        # Behind an "else" there is one deed at least, for which there is no room here.
        self.wrong(60, read_script, text(*lines[:58], "when 1", "else", "  gone", "end"))
        self.wrong(60, read_script, text(*lines[:58], "when 1", "  gone", "end"))
        self.wrong(61, read_script, text(*lines[:57], "when 1", "else", "  gone", "  gone", "end"))
        nested = "(sum " * 6
        self.assertEqual(depth_of(read_script("own 0 = " + nested + "1" + " 2)" * 6)), 8)

    def test_8_and_9_deep(self):
        for deep in range(5, 9):
            whens = ["  " * at + "when 1" for at in range(deep - 1)]
            ends = [line.replace("when 1", "end") for line in reversed(whens)]
            self.assertEqual(depth_of(read_script(text(*whens, "  " * (deep - 1) + "gone", *ends))), deep)
        self.wrong(8, read_script, text(*whens, "  " * 7 + "when 1"))
        self.wrong(8, read_script, text(*whens, "  " * 7 + "own 0 = 1"))
        self.assertEqual(depth_of(read_script("own 0 = " + "(not " * 6 + "1" + ")" * 6)), 8)
        self.wrong(1, read_script, "own 0 = " + "(not " * 7 + "1" + ")" * 7)
        self.wrong(2, read_script, text("when 1", "  own 0 = " + "(not " * 6 + "1" + ")" * 6, "end"))

    def test_brackets_in_great_number(self):
        for many in (9, 60, 1000, 100000):
            for wrong in ("(" * many, ")" * many, "(" * many + ")" * many, "(not " * many + "1" + ")" * many,
                          "(not " * many, "( " * many, "(x)" * many, "(sum " + "(x) " * many + ")", "1" * many):
                self.wrong(1, read_script, "own 0 = " + wrong)
                self.wrong(1, read_script, "when " + wrong)
                self.wrong(1, read_script, wrong)


class TestRows(Reading):
    def test_to_and_fro(self):
        rng = random.Random(132)
        for _ in range(200):
            rows = random_untold_rows(rng)
            self.reads(read_rows, show_rows(rows), rows)
        self.reads(read_rows, "-", ())
        self.assertEqual(read_rows(text="0"), ((0,),))
        self.reads(read_rows, "0,?,63,1 ?,?,?,?", ((0, None, 63, 1), (None,) * 4))
        self.assertEqual(len(read_rows(" ".join(["7,7"] * 400))), 400)

    def test_wrong_ones(self):
        for wrong in ("", " ", "--", "- ", " -", "- 0", "0 -", "-,-", "64", "-1", "00", "+1", "0,", ",0", "0,,0", "0 ",
                      " 0", "0  0", "0,1 0", "0 0,1", "0,0,0,0,0", "??", "?0", "0 ?,?", "0, 1", "a", "0;1", "0,0 0,0 0",
                      "-0", "1.0", "\t0", "0\t0", "63,64", "9999999999", "\u0663", "0,-"):
            self.wrong(1, read_rows, wrong)
            self.wrong(1, read_rows, text(wrong, "0"))
        for right in ("-", "0", "?,1 2,3"):
            self.wrong(2, read_rows, right + "\n")
            self.wrong(2, read_rows, text(right, right))
            self.wrong(2, read_rows, text(right, right, right))


class TestLetters(Reading):
    def test_to_and_fro(self):
        rng = random.Random(133)
        for _ in range(300):
            letter = random_letter(rng)
            self.reads(read_letter, show_letter(letter), letter)
        self.assertEqual(read_letter(text="0 4 - 1,0 4,2"), (0, 4, (1, 0), None, (4, 2)))
        self.reads(read_letter, "0 0 0 - 0", (0, 0, (), 0, (0,)))
        self.reads(read_letter, "999999999 999999999 999999999 - 999999999",
                   (10 ** 9 - 1, 10 ** 9 - 1, (), 10 ** 9 - 1, (10 ** 9 - 1,)))

    def test_edges(self):
        for row, right in ((",".join(["0"] * 32), True), (",".join(["0"] * 33), False), ("63", True), ("64", False)):
            if right:
                self.assertEqual(len(read_letter("0 3 - " + row + " 1")[2]), row.count(",") + 1)
            else:
                self.wrong(1, read_letter, "0 3 - " + row + " 1")
        for ends in range(8):
            told = f"0 3 {ends} 1,1 5"
            if ends >= 5:
                self.assertEqual(read_letter(told)[3], ends)
            else:
                self.wrong(1, read_letter, told)
        for many in range(1, 7):
            told = "0 3 - - " + ",".join(["2"] * many)
            if many <= 4:
                self.assertEqual(read_letter(told)[4], (2,) * many)
            else:
                self.wrong(1, read_letter, told)

    def test_wrong_ones(self):
        for wrong in ("", "0", "0 4 - 1,0", "0 4 - 1,0 4,2 0", " 0 4 - 1,0 4,2", "0 4 - 1,0 4,2 ", "0  4 - 1,0 4,2",
                      "-1 4 - - 0", "0 -1 - - 0", "0 4 -1 - 0", "0 4 - -1 0", "0 4 - - -1", "0 4 - - ", "0 4 - - -",
                      "- 4 - - 0", "0 - - - 0", "0 4 - 1, 0", "0 4 - ,1 0", "0 4 - 1,,1 0", "0 4 - 1 0,", "00 4 - - 0",
                      "0 04 - - 0", "0 4 05 - 0", "0 4 - 01 0", "0 4 - - 00", "+0 4 - - 0", "-0 4 - - 0", "0 4 -- - 0",
                      "0 4 - -- 0", "0 4 ? - 0", "0 4 - ? 0", "1000000000 4 - - 0", "0 1000000000 - - 0",
                      "0 4 1000000000 - 0", "0 4 - - 1000000000", "0 4 - 1000000000 0", "0 4 - - \u0663",
                      "0 4 None - 0"):
            self.wrong(1, read_letter, wrong)
        for more in ("\n", "\n0 4 - - 0", "\n\n"):
            self.wrong(2, read_letter, "0 4 - - 0" + more)


class TestWorlds(Reading):
    def test_to_and_fro(self):
        rng = random.Random(134)
        for number in range(60):
            game = (random_game, crowded_game)[number % 2](rng)
            world = first_world(game, rng.randrange(65537))
            for _ in range(3):
                self.reads(lambda told: read_world(game, told), show_world(world), world)
                world = last(game, world, (random_presses(rng, game),) * 2)
        world = first(GAME)
        self.assertEqual(read_world(game=GAME, text=show_world(world)), world)

    def test_each_line_beside_those_ahead(self):
        hero, crate = "0 0 18 0 0 0 -1 0 0 0 0", "1 -1 28 40 0 0 -1 0 0 0 0"
        right = [f"slot 2: {hero}", f"slot 10: {crate}", "met 2: 0 15", "met 10: 9 11", "seed 65536", "mark 0: -999",
                 "mark 15: 999"]
        world = read_world(GAME, text(*right))
        self.assertTrue(is_world(GAME, world))
        self.assertEqual((world[2], world[18], world[32], world[33], world[48]),
                         ((0, 0, 18, 0, 0, 0, -1, (0, 0, 0, 0)), (0, 15), 65536, -999, 999))
        self.assertEqual(world[49:].count((2,)), 1)
        for many in range(4):
            self.wrong(many + 1 if many else 1, read_world, GAME, text(*right[:many]))
        self.assertEqual(read_world(GAME, text(*right[:5]))[33:49], (0,) * 16)
        self.assertEqual(read_world(GAME, "seed 0")[:32], (None,) * 16 + ((),) * 16)
        for at, line in ((0, "slot 16: " + hero), (0, "slot -1: " + hero), (0, "slot 02: " + hero),
                         (0, "slot 2 " + hero), (0, "slot 12 " + hero), (2, "met -1: 0"), (2, "met 12 0"),
                         (5, "mark -1: 1"), (5, "mark 12 1"), (0, "slot 2:  " + hero), (0, "slot 2: " + hero + " 0"),
                         (0, "slot 2: " + hero[:-2]), (0, "slot 2:"), (0, "slot 2: " + hero + " "),
                         (0, " slot 2: " + hero), (0, "Slot 2: " + hero), (0, "slot: " + hero),
                         (0, "slot 2: 5 0 18 0 0 0 -1 0 0 0 0"), (0, "slot 2: 0 2 18 0 0 0 -1 0 0 0 0"),
                         (0, "slot 2: 0 -2 18 0 0 0 -1 0 0 0 0"), (0, "slot 2: 0 0 40 36 0 0 -1 0 0 0 0"),
                         (0, "slot 2: 0 0 -1 0 0 0 -1 0 0 0 0"), (0, "slot 2: 0 0 18 -1 0 0 -1 0 0 0 0"),
                         (0, "slot 2: 0 0 18 0 8 0 -1 0 0 0 0"), (0, "slot 2: 0 0 18 0 0 -8 -1 0 0 0 0"),
                         (0, "slot 2: 0 0 18 0 0 0 -3 0 0 0 0"), (0, "slot 2: 0 0 18 0 0 0 16 0 0 0 0"),
                         (0, "slot 2: 0 0 18 0 0 0 -1 1000 0 0 0"), (0, "slot 2: 0 0 18 0 0 0 -1 0 0 0 -1000"),
                         (0, "slot 2: 0 0 18 56 0 0 -1 0 0 0 0"), (0, "slot 2: 0 0 1000000000 0 0 0 -1 0 0 0 0"),
                         (1, "slot 2: " + crate), (1, "slot 1: " + crate), (1, "slot 3: 1 -1 23 0 0 0 -1 0 0 0 0"),
                         (1, "slot 3: 0 1 13 7 0 0 -1 0 0 0 0"), (2, "met 3: 2"), (2, "met 2:"), (2, "met 2: "),
                         (2, "met 2: 2"), (2, "met 2: 3 2"), (2, "met 2: 3 3"), (2, "met 2: 5 4"), (2, "met 2: 16"),
                         (2, "met 2: -1"), (2, "met 2: 03"), (3, "met 1: 0"), (3, "met 2: 3"), (3, "slot 11: " + crate),
                         (4, "seed 65537"), (4, "seed -1"), (4, "seed"), (4, "seed 1 2"), (4, "seed 01"),
                         (4, "seed 0: 1"), (4, "mark 0: 1"), (4, "met 9: 1"), (5, "seed 1"), (5, "mark 0: 0"),
                         (5, "mark 0: 1000"), (5, "mark 0: -1000"), (5, "mark 16: 1"), (5, "mark 0 1"),
                         (5, "mark 0: 1 1"), (5, "mark 0:"), (5, "mark 0: -0"), (5, "met 11: 1"), (5, "rows -"),
                         (5, "slot 12: " + crate), (6, "mark 0: 5"), (6, ""), (7, "mark 15: 5"), (7, ""),
                         (7, "seed 1")):
            self.wrong(at + 1, read_world, GAME, text(*right[:at], line))
            self.wrong(at + 1, read_world, GAME, text(*right[:at], line, *right[at + 1:]))

    def test_things_within_one_another(self):
        # Heroes and crates bar, shots and bubbles do not.
        for one, other, right in (("0 0 18 0", "1 -1 24 0", True), ("0 0 18 0", "1 -1 23 0", False),
                                  ("0 0 18 0", "3 -1 18 0", True), ("3 0 18 0", "1 -1 18 0", True),
                                  ("4 0 18 0", "4 -1 18 0", True)):
            told = text(f"slot 0: {one} 0 0 -2 0 0 0 0", f"slot 1: {other} 0 0 -2 0 0 0 0", "seed 5")
            if right:
                self.assertTrue(is_world(GAME, read_world(GAME, told)))
            else:
                self.wrong(2, read_world, GAME, told)

    def test_the_empty_text(self):
        self.wrong(1, read_world, GAME, "")
        self.wrong(1, read_world, GAME, "\nseed 0")


class TestGames(Reading):
    def test_to_and_fro(self):
        rng = random.Random(135)
        for number in range(60):
            game = (random_game, crowded_game)[number % 2](rng)
            self.reads(read_game, show_game(game), game)
        self.reads(read_game, show_game(GAME), GAME)
        self.assertEqual(read_game(text=text("houses 1 pull 0", *ROWS, *KIND)),
                         ((("....", "....", "####"), (), 1, 0), (("a", 8, 8, ("bars",), (0, 0, 0, 0), ()),)))

    def test_first_lines(self):
        for houses in range(-1, 7):
            for pull in range(-1, 6):
                told = text(f"houses {houses} pull {pull}", *ROWS, *KIND)
                if 1 <= houses <= 4 and 0 <= pull <= 3:
                    self.assertEqual(read_game(told)[0][2:], (houses, pull))
                else:
                    self.wrong(1, read_game, told)
        for wrong in ("", "houses 1 pull", "houses 1", "houses 1 pull 0 ", "houses 1  pull 0", "houses 01 pull 0",
                      "pull 0 houses 1", "houses 1 pull 0 0", "|....", "houses + pull 0", "Houses 1 pull 0",
                      "houses 1 push 0", " houses 1 pull 0"):
            self.wrong(1, read_game, text(wrong, *ROWS, *KIND))

    def test_rows_of_the_floor(self):
        head = "houses 1 pull 0"
        for many in range(1, 19):
            told = text(head, *["|......"] * many, *KIND)
            if 3 <= many <= 16:
                self.assertEqual(len(read_game(told)[0][0]), many)
            else:
                self.wrong(many + 2 if many < 3 else 18, read_game, told)
        for wide in range(1, 28):
            told = text(head, *["|" + "." * wide] * 3, *KIND)
            if 4 <= wide <= 24:
                self.assertEqual(len(read_game(told)[0][0][0]), wide)
            else:
                self.wrong(2, read_game, told)
        for at in range(3):
            for wrong in ("|...", "|.....", "|...x", "|... ", "....", " |....", "| ....", "|", "||....", ""):
                lines = list(ROWS)
                lines[at] = wrong
                number = 2 + at if at or wrong != "|....." else 3
                self.wrong(number, read_game, text(head, *lines, *KIND))
        for many in range(1, 4):
            self.wrong(many + 2, read_game, text(head, *ROWS[:many]))
        self.wrong(2, read_game, head)
        self.wrong(6, read_game, text(head, *ROWS, "start 0 0 0 0", "|....", *KIND))
        self.wrong(7, read_game, text(head, *ROWS, *KIND, "|...."))
        self.wrong(7, read_game, text(head, *ROWS, *KIND, "start 0 0 0 0"))
        self.wrong(4, read_game, text(head, *ROWS[:2], "start 0 0 0 0", *KIND))

    def test_starts(self):
        def told(*starts):
            return text("houses 2 pull 0", *ROWS, *["start " + start for start in starts], *KIND)
        for start in ("0 0 0 0", "0 1 24 8", "0 -1 3 5"):
            self.assertEqual(read_game(told(start))[0][1], (tuple(int(word) for word in start.split(" ")),))
        for start in ("0 2 0 0", "0 -2 0 0", "8 0 0 0", "-1 0 0 0", "0 0 -1 0", "0 0 32 0", "0 0 0 -1", "0 0 0 16",
                      "0 0 5 23", "0 0 0 24", "0 0 0", "0 0 0 0 0", "00 0 0 0", "0 0 0 x", "0 0  0 0", "0 0 0 0 ", "",
                      "0 0 -0 0", "0 0 1000000000 0"):
            self.wrong(5, read_game, told(start))
            self.wrong(6, read_game, told("0 0 0 0", start))
        self.wrong(5, read_game, told("0 0 0 0").replace("start ", "starts "))
        self.wrong(5, read_game, told("0 0 0 0").replace("start ", "start"))

    def test_at_most_12_starts(self):
        starts = ["start 1 -1 3 4"] * 13
        kinds = (*KIND, "kind b 2 2 - 0 0 0 0", "end")
        self.assertEqual(len(read_game(text("houses 1 pull 0", *ROWS, *starts[:12], *kinds))[0][1]), 12)
        self.wrong(17, read_game, text("houses 1 pull 0", *ROWS, *starts, *kinds))

    def test_starts_that_a_kind_makes_wrong(self):
        def told(starts, *kinds):
            lines = [line for kind in kinds for line in ("kind " + kind, "end")]
            return text("houses 2 pull 0", *ROWS, *["start " + start for start in starts], *lines)
        small, wide, ghost = "a 8 8 bars 0 0 0 0", "b 9 8 bars 0 0 0 0", "c 8 8 - 0 0 0 0"
        self.assertTrue(is_game(read_game(told(("0 0 24 8",), small))))
        self.wrong(6, read_game, told(("0 0 24 8",), wide))
        self.wrong(6, read_game, told(("0 0 24 9",), small))
        self.wrong(8, read_game, told(("1 0 24 8",), small, wide))
        self.assertTrue(is_game(read_game(told(("1 0 24 8",), wide, small))))
        # Two of one kind, or of two, that bar within one another: the later kind makes it so.
        self.wrong(7, read_game, told(("0 0 0 0", "0 0 7 7"), small))
        self.wrong(7, read_game, told(("0 0 0 0", "0 0 7 7"), small, wide))
        self.assertTrue(is_game(read_game(told(("0 0 0 0", "0 0 8 8"), small))))
        self.wrong(9, read_game, told(("0 0 0 0", "1 0 7 7"), small, wide))
        self.wrong(9, read_game, told(("1 0 0 0", "0 0 7 7"), small, wide))
        self.assertTrue(is_game(read_game(told(("0 0 0 0", "1 0 7 7"), small, ghost))))
        self.assertTrue(is_game(read_game(told(("0 0 0 0", "0 0 7 7"), ghost))))
        # A kind that is wanted and does not come.
        self.wrong(8, read_game, told(("1 0 0 0",), small))
        self.wrong(10, read_game, told(("2 0 0 0",), small, ghost))
        self.wrong(9, read_game, told(("7 0 0 0", "0 0 7 7"), small))

    def test_kinds(self):
        def told(*kinds):
            return text("houses 1 pull 0", *ROWS, *[line for kind in kinds for line in ("kind " + kind, "end")])
        for kind in ("a 1 1 - 0 0 0 0", "abcdefgh 16 16 bars,carries,falls,frail,pushed -999 999 0 1"):
            self.assertEqual(len(read_game(told(kind))[1]), 1)
        for kind in ("a 0 1 - 0 0 0 0", "a 1 0 - 0 0 0 0", "a 17 1 - 0 0 0 0", "a 1 17 - 0 0 0 0",
                     "abcdefghi 1 1 - 0 0 0 0", "A 1 1 - 0 0 0 0", "a1 1 1 - 0 0 0 0", " 1 1 - 0 0 0 0",
                     "a 1 1 - 0 0 0", "a 1 1 - 0 0 0 0 0", "a 1 1 - 1000 0 0 0", "a 1 1 - 0 0 0 -1000",
                     "a 1 1  0 0 0 0", "a 1 1 0 0 0 0", "a 1 1 pushed 0 0 0 0", "a 1 1 carries 0 0 0 0",
                     "a 1 1 falls,bars 0 0 0 0", "a 1 1 bars,bars 0 0 0 0", "a 1 1 bars, 0 0 0 0",
                     "a 1 1 -,bars 0 0 0 0", "a 1 1 bars;falls 0 0 0 0", "a 1 1 flies 0 0 0 0",
                     "a 1 1 bars falls 0 0 0 0", "a 01 1 - 0 0 0 0", "a 1 1 - 0 0 0 0 ", "a 1 1 - 00 0 0 0",
                     "a 1 1 - +1 0 0 0", "a x 1 - 0 0 0 0", "", "a", "a 1", "a 1 1", "a 1 1 -"):
            self.wrong(5, read_game, told(kind))
            self.wrong(7, read_game, told("z 1 1 - 0 0 0 0", kind))
        for word in ("kinds", "Kind", " kind", "start", "a"):
            self.wrong(5, read_game, told("a 1 1 - 0 0 0 0").replace("kind", word))
        self.wrong(7, read_game, told("a 1 1 - 0 0 0 0", "a 2 2 - 0 0 0 0"))
        names = [sign + " 1 1 - 0 0 0 0" for sign in "abcdefghi"]
        self.assertEqual(len(read_game(told(*names[:8]))[1]), 8)
        self.wrong(21, read_game, told(*names))

    def test_scripts_of_kinds(self):
        head = ("houses 1 pull 0", *ROWS, "kind a 8 8 bars 0 0 0 0")
        rules = ("  when 1", "    born 0 at 1 2 by 3 4", "  else", "    gone", "  end", "  gone")
        self.assertEqual(read_game(text(*head, *rules, "end"))[1][0][5],
                         (("when", n(1), (("born", 0, n(1), n(2), n(3), n(4)),), (("gone",),)), ("gone",)))
        for many in range(7):
            self.wrong(6 + many, read_game, text(*head, *rules[:many]))
        for many in range(1, 5):
            self.wrong(6 + many, read_game, text(*head, *rules[:many], "end"))
        for wrong in ("gone", " gone", "   gone", "    gone", "", "  ", "  end", "  else", "kind b 1 1 - 0 0 0 0",
                      "  own 4 = 1", "end ", "start 0 0 0 0", "|...."):
            self.wrong(6, read_game, text(*head, wrong, "end"))
        self.wrong(7, read_game, text(*head, "end", "end"))
        self.wrong(7, read_game, text(*head, "end", "  gone"))
        self.wrong(7, read_game, text(*head, "end", ""))
        self.wrong(66, read_game, text(*head, *["  gone"] * 61, "end"))
        self.assertEqual(len(read_game(text(*head, *["  gone"] * 60, "end"))[1][0][5]), 60)

    def test_kinds_that_stand_in_scripts_have_to_come(self):
        head = ("houses 1 pull 0", *ROWS, "kind a 8 8 bars 0 0 0 0")
        for rule in ("own 0 = (met 1)", "own 0 = (met own 1 0)", "born 1 at 0 0 by 0 0"):
            self.wrong(8, read_game, text(*head, "  " + rule, "end"))
            self.assertEqual(len(read_game(text(*head, "  " + rule, "end", "kind b 1 1 - 0 0 0 0", "end"))[1]), 2)
            self.wrong(6, read_game, text(*head, "  " + rule.replace("1", "8", 1), "end"))

    def test_the_empty_text(self):
        self.wrong(1, read_game, "")


class TestPapers(Reading):
    def test_to_and_fro(self):
        rng = random.Random(136)
        for number in range(40):
            game = (random_game, crowded_game)[number % 2](rng)
            paper = random_paper(rng, game)
            self.reads(lambda told: read_paper(game, told), show_paper(paper), paper)
        self.assertEqual(read_paper(game=GAME, text=text("seed 0", "rows -"))[1:], ((), ()))

    def test_lines(self):
        right = ["seed 5", "mark 3: 7", "rows 0,1 2,63", "sum 0 5", "sum 2 -9999999999999999999"]
        self.assertEqual(read_paper(GAME, text(*right))[1:], (((0, 1), (2, 63)), ((0, 5), (2, -(10 ** 19 - 1)))))
        for many in (1, 2):
            self.wrong(many + 1, read_paper, GAME, text(*right[:many]))
        for many in (3, 4):
            self.assertEqual(len(read_paper(GAME, text(*right[:many]))[2]), many - 3)
        for at, line in ((0, "rows -"), (0, "sum 0 5"), (0, ""), (1, "sum 0 5"), (2, "rows"), (2, "rows "),
                         (2, "rows 0,?"), (2, "rows  0"), (2, "rows 64"), (2, "rows 0 0,0"), (2, "rows 0,0,0,0,0"),
                         (2, "row 0"), (2, "rows -\t"), (2, "mark 2: 5"), (3, "sum 3 5"), (3, "sum -1 5"),
                         (3, "sum 00 5"), (3, "sum 0 05"), (3, "sum 0 +5"), (3, "sum 0  5"), (3, "sum 0"),
                         (3, "sum 0 5 5"), (3, "sum 0 10000000000000000000"), (3, "sum 0 -10000000000000000000"),
                         (3, "sum 0 -"), (3, "mark 5: 5"), (3, "rows -"), (3, ""), (3, "Sum 0 5"), (3, "sum 0 x"),
                         (3, "sum x 0"), (3, "sum 0 -0"), (4, "sum 0 6"), (4, ""), (5, "sum 2 5"), (5, "sum 3 5"),
                         (5, ""), (4, "sum 1000000000 5")):
            self.wrong(at + 1, read_paper, GAME, text(*right[:at], line))
            self.wrong(at + 1, read_paper, GAME, text(*right[:at], line, *right[at + 1:]))

    def test_rows_have_1_to_4_presses_whatever_houses_there_are(self):
        for many in range(1, 7):
            told = text("seed 5", "rows " + ",".join(["1"] * many))
            if many <= 4:
                self.assertEqual(read_paper(GAME, told)[1], ((1,) * many,))
            else:
                self.wrong(2, read_paper, GAME, told)

    def test_worlds_within(self):
        self.wrong(1, read_paper, GAME, text("slot 0: 0 0 40 36 0 0 -1 0 0 0 0", "seed 5", "rows -"))
        self.wrong(1, read_paper, GAME, "")


def spoilt(rng, told):
    """A text with something in it put in, left out, changed, doubled or exchanged."""
    lines = told.split("\n")
    at = rng.randrange(len(lines))
    draw = rng.randrange(14)
    signs = "0123456789-?,()|:= abcdegknopstuwx#.<>^\t"
    if draw == 0:
        del lines[at]
    elif draw == 1:
        lines.insert(at, rng.choice(lines))
    elif draw == 2:
        other = rng.randrange(len(lines))
        lines[at], lines[other] = lines[other], lines[at]
    elif draw == 3:
        lines.insert(rng.randrange(len(lines) + 1),
                     rng.choice(("", "end", "else", "  end", "  gone", "seed 5", "rows -", "|....")))
    elif draw == 4:
        lines = lines[:at]
    elif draw == 5:
        lines[at] = rng.choice(("", " ", "  ")) + lines[at] + rng.choice(("", " "))
    elif draw == 6:
        lines = told.split("\n")[:at + 1] + ["x"] + lines[at + 1:]
    elif draw in (7, 8):
        words = lines[at].split(" ")
        place = rng.randrange(len(words))
        words[place] = rng.choice(("", "0", "-1", "1", "00", "+" + words[place], "0" + words[place], words[place] + "0",
                                   "?", "-", "bars", "123456789", "1234567890", "9" * 19, "9" * 20, "(x)", words[-1],
                                   "64", "7"))
        lines[at] = " ".join(words)
    elif draw == 9:
        words = lines[at].split(" ")
        place = rng.randrange(len(words))
        words[place:place + 1] = rng.choice(([], words[place:place + 1] * 2, ["0", words[place]]))
        lines[at] = " ".join(words)
    elif lines[at]:
        place = rng.randrange(len(lines[at]))
        sign = rng.choice(("", rng.choice(signs), rng.choice(signs) + lines[at][place], lines[at][place] * 2))
        lines[at] = lines[at][:place] + sign + lines[at][place + 1:]
    return "\n".join(lines)


class TestSpoilt(Reading):
    def compare(self, rng, many, read, slow_read, ends, told):
        """Spoilt texts are read as the document tells, or hold the number of the line that it tells."""
        wrong = 0
        for _ in range(many):
            other = spoilt(rng, told)
            if rng.random() < 0.3:
                other = spoilt(rng, other)
            if read is read_script and other.startswith("\n"):
                continue
            if slow.is_right(slow_read, other):
                self.reads(read, other, slow_read(other))
            else:
                number = slow.first_wrong_line(slow_read, ends, other)
                self.raises(Unreadable, number, read, other)
                wrong += 1
        return wrong

    def test_scripts(self):
        rng = random.Random(137)
        wrong = 0
        for _ in range(60):
            told = show_script(random_script(rng, 4))
            if told:
                wrong += self.compare(rng, 12, read_script, slow.script, slow.script_ends, told)
        self.assertGreater(wrong, 300)

    def test_rows_and_letters(self):
        rng = random.Random(138)
        for _ in range(60):
            self.compare(rng, 10, read_rows, slow.rows, slow.one_line_ends, show_rows(random_untold_rows(rng)))
            self.compare(rng, 10, read_letter, slow.letter, slow.one_line_ends, show_letter(random_letter(rng)))

    def test_worlds_and_papers(self):
        rng = random.Random(139)
        for number in range(10):
            game = (random_game, crowded_game)[number % 2](rng)
            paper = random_paper(rng, game)
            self.compare(rng, 12, lambda text: read_world(game, text), lambda text: slow.world(game, text),
                         slow.world_ends, show_world(paper[0]))
            self.compare(rng, 12, lambda text: read_paper(game, text), lambda text: slow.paper(game, text),
                         slow.paper_ends, show_paper(paper))

    def test_games(self):
        rng = random.Random(140)
        for number in range(24):
            game = (random_game, crowded_game)[number % 2](rng)
            self.compare(rng, 10, read_game, slow.game, slow.game_ends, show_game(game))


if __name__ == "__main__":
    unittest.main()
