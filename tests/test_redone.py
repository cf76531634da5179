"""latepresses.redone."""

import random
import unittest

from cases import Case, changed
from samples import behind as written
from samples import crowded_game, first, played_game, random_game, random_rows_of_presses

from latepresses.cells import first_world, unlike
from latepresses.errors import InvalidGame, InvalidNumber, InvalidPress, InvalidRows, InvalidTrace, InvalidWorld
from latepresses.looks import trace
from latepresses.redone import dies, reached, redone, touched_by
from latepresses.ticks import last, run

GAME = played_game(2)
WORLD = first_world(GAME, 5)
WRONG_GAME = (GAME[0], ())
WRONG_WORLD = changed(WORLD, 32, 65537)
ROWS = ((2, 16), (18, 4), (0, 32), (6, 1), (0, 0), (16, 2))
OLD = trace(GAME, WORLD, ROWS)


def n(number):
    return ("number", number)


def still_game(*rules, houses=1):
    """A game of dots that do not move, one of each kind, each with its rules, of the houses 0, 1, .. and again."""
    kinds = tuple(("abcdefgh"[k], 2, 2, (), (0, 0, 0, 0), told) for k, told in enumerate(rules))
    starts = tuple((k, k % houses, 4 * k + 1, 1) for k in range(len(rules)))
    return ((("....",) * 4, starts, houses, 0), kinds)


def with_press(rows, tick, house, press):
    return changed(rows, tick, changed(rows[tick], house, press))


def due_again(game, world, old, rows):
    """What is to be done again by the document's words, found by doing all anew."""
    again = []
    anew = trace(game, world, rows)
    for number, ((presses, newer), (elder_presses, notes)) in enumerate(zip(anew, old)):
        for index, (heard, looked, _) in enumerate(notes):
            otherwise = heard != -1 and presses[heard] != elder_presses[heard]
            if otherwise or any(world[cell] != value for cell, value in looked):
                again.append((number, index))
            world = written(world, newer[index][2])
    return tuple(again)


class TestRedone(Case):
    def check(self, game, world, rows, others):
        old = trace(game, world, rows)
        told, again = redone(game, world, old, others)
        self.assertEqual(told, trace(game, world, others))
        self.assertEqual(again, due_again(game, world, old, others))
        return again

    def test_the_same_presses(self):
        self.assertEqual(redone(GAME, WORLD, OLD, ROWS), (OLD, ()))

    def test_no_ticks(self):
        self.assertEqual(redone(GAME, WORLD, (), ()), ((), ()))
        self.assertEqual((reached(GAME, WORLD, (), ()), dies(GAME, WORLD, (), ())), ((), 0))

    def test_one_press_put_otherwise(self):
        for number in range(6):
            for house in range(2):
                for bit in (1, 2, 4, 8, 16, 32):
                    others = with_press(ROWS, number, house, ROWS[number][house] ^ bit)
                    again = self.check(GAME, WORLD, ROWS, others)
                    # The hero of the house 0 is in slot 0; those of the house 1 are in the slots 1 and 6.
                    heard = [(number, slot) for slot in ((0,), (1, 6))[house]]
                    self.assertTrue(set(heard) <= set(again))
                    self.assertEqual(again[0], heard[0])

    def test_many_presses_put_otherwise(self):
        rng = random.Random(41)
        for game in (GAME, played_game(1), played_game(4), crowded_game(rng), random_game(rng), random_game(rng)):
            rows = random_rows_of_presses(rng, game, 4)
            others = tuple(tuple(rng.choice((press, rng.randrange(64))) for press in presses) for presses in rows)
            self.check(game, first(game), rows, others)

    def test_less_is_done_again_than_all(self):
        rows = random_rows_of_presses(random.Random(42), GAME, 20)
        again = self.check(GAME, WORLD, rows, with_press(rows, 10, 0, rows[10][0] ^ 2))
        self.assertTrue(2 < len(again) < 800, len(again))
        self.assertGreaterEqual(again[0], (10, 0))

    def test_a_press_that_nobody_hears(self):
        game = still_game((("own", 0, ("held", 0)),), houses=2)
        world = first(game)
        self.assertEqual(redone(game, world, trace(game, world, ((0, 0), (0, 0))), ((0, 63), (0, 1)))[1], ())
        self.assertEqual(redone(game, world, trace(game, world, ((0, 0), (0, 0))), ((0, 63), (32, 1)))[1], ((1, 0),))

    def test_presses_that_differ_without_effect(self):
        told, again = redone(GAME, WORLD, OLD, with_press(ROWS, 0, 0, 10))
        self.assertEqual(again, ((0, 0),))
        self.assertEqual([notes for _, notes in told], [notes for _, notes in OLD])
        self.assertEqual([presses for presses, _ in told], [(10, 16), *ROWS[1:]])

    def test_a_deed_done_again_that_writes_the_same_is_the_end_of_it(self):
        rules = (("when", ("held", 0), (("mark", 0, n(1)),), (("mark", 0, n(2)),)),)
        reader = (("mark", 1, ("below", n(0), ("mark", 0))),)
        behind = (("mark", 2, ("mark", 1)),)
        game = still_game(rules, reader, behind, houses=3)
        world = first(game)
        old = trace(game, world, ((0, 0, 0),) * 3)
        rows = ((0, 0, 0), (1, 0, 0), (0, 0, 0))
        self.assertEqual(redone(game, world, old, rows)[1], ((1, 0), (1, 1), (2, 0)))
        self.assertEqual(reached(game, world, old, rows), ((), (33,), ()))

    def test_the_worlds_of_what_is_redone(self):
        rng = random.Random(43)
        others = random_rows_of_presses(rng, GAME, 6)
        told, _ = redone(GAME, WORLD, OLD, others)
        world = WORLD
        for (presses, notes), plain in zip(told, run(GAME, WORLD, others)[1:]):
            for note in notes:
                world = written(world, note[2])
            self.assertEqual(world, plain)

    def test_there_and_back_again(self):
        others = random_rows_of_presses(random.Random(44), GAME, 6)
        told, _ = redone(GAME, WORLD, OLD, others)
        self.assertEqual(redone(GAME, WORLD, told, ROWS)[0], OLD)

    def test_sixty_ticks(self):
        rows = random_rows_of_presses(random.Random(45), GAME, 60)
        others = with_press(rows, 30, 1, rows[30][1] ^ 4)
        self.check(GAME, WORLD, rows, others)

    def test_by_name(self):
        told = redone(game=GAME, world=WORLD, old=OLD, rows=ROWS)
        self.assertEqual(told, (OLD, ()))
        self.assertEqual(reached(game=GAME, world=WORLD, old=OLD, rows=ROWS), ((),) * 6)
        self.assertEqual(dies(game=GAME, world=WORLD, old=OLD, rows=ROWS), 0)
        self.assertEqual(touched_by(game=GAME, world=WORLD, old=OLD, tick=0, house=1, press=16), ((),) * 6)


class TestReached(Case):
    def test_by_the_plain_worlds(self):
        rng = random.Random(46)
        for game in (GAME, played_game(3), random_game(rng), random_game(rng)):
            world, rows = first(game), random_rows_of_presses(rng, game, 5)
            old = trace(game, world, rows)
            for _ in range(4):
                others = with_press(rows, rng.randrange(5), 0, rng.randrange(64))
                due = tuple(unlike(one, other) for one, other in zip(run(game, world, rows), run(game, world, others)))
                self.assertEqual(reached(game, world, old, others), due[1:])

    def test_dies_by_what_is_reached(self):
        def due(told):
            many = len(told)
            for number in range(many + 1):
                if not any(told[max(0, number - 1):]):
                    return number
            return None
        rng = random.Random(47)
        found = set()
        for _ in range(40):
            rows = random_rows_of_presses(rng, GAME, 12)
            number = rng.randrange(12)
            others = with_press(rows, number, 0, rows[number][0] ^ rng.choice((4, 8, 16)))
            old = trace(GAME, WORLD, rows)
            told = dies(GAME, WORLD, old, others)
            self.assertEqual(told, due(reached(GAME, WORLD, old, others)))
            found.add(told)
        self.assertTrue({0, None} < found, found)

    def test_dies_at_once_later_never(self):
        # Mark 0 is what is pressed now, mark 1 counts whatever was pressed up to 2, mark 2 counts for ever.
        rules = (("mark", 0, ("held", 0)), ("mark", 1, ("least", n(2), ("sum", ("mark", 1), ("held", 1)))),
                 ("mark", 2, ("sum", ("mark", 2), ("held", 2))))
        game = still_game(rules)
        world = first(game)
        rows = ((0,), (2,), (0,), (2,), (0,))
        old = trace(game, world, rows)
        for number in range(5):
            one = with_press(rows, number, 0, rows[number][0] ^ 1)
            self.assertEqual(dies(game, world, old, one), number + 2 if number < 4 else None)
            self.assertEqual(dies(game, world, old, with_press(rows, number, 0, rows[number][0] ^ 4)), None)
            self.assertEqual(dies(game, world, old, with_press(rows, number, 0, rows[number][0] ^ 8)), 0)
        self.assertEqual(dies(game, world, old, with_press(rows, 0, 0, 2)), 4)
        self.assertEqual(reached(game, world, old, with_press(rows, 0, 0, 2)), ((34,), (34,), (34,), (), ()))
        self.assertEqual(reached(game, world, old, ((1,), (2,), (1,), (2,), (0,))), ((33,), (), (33,), (), ()))
        self.assertEqual(dies(game, world, old, ((1,), (2,), (1,), (2,), (0,))), 4)

    def test_touched_by(self):
        for number in range(6):
            for house in range(2):
                for press in (0, 2, 32, 63, ROWS[number][house]):
                    others = with_press(ROWS, number, house, press)
                    told = touched_by(GAME, WORLD, OLD, number, house, press)
                    self.assertEqual(told, reached(GAME, WORLD, OLD, others))
                    self.assertEqual(told[-1] == (), last(GAME, WORLD, others) == last(GAME, WORLD, ROWS))


class TestErrors(Case):
    CALLS = (redone, reached, dies)
    NO_TRACE = (OLD[0], OLD[2])

    def test_in_their_order(self):
        for call in self.CALLS:
            self.raises(InvalidGame, WRONG_GAME, call, WRONG_GAME, WRONG_WORLD, self.NO_TRACE, ((64, 0),))
            self.raises(InvalidWorld, 32, call, GAME, WRONG_WORLD, self.NO_TRACE, ((64, 0),))
            self.raises(InvalidPress, (64, 0), call, GAME, WORLD, self.NO_TRACE, ((0, 0), (64, 0), (0,)))
            self.raises(InvalidPress, (0,), call, GAME, WORLD, OLD, ROWS + ((0,),))
            self.raises(InvalidTrace, self.NO_TRACE, call, GAME, WORLD, self.NO_TRACE, ())
            self.raises(InvalidTrace, self.NO_TRACE, call, GAME, WORLD, self.NO_TRACE, ROWS[:2])
            for many in (0, 1, 5, 7):
                rows = (ROWS * 2)[:many]
                self.raises(InvalidRows, (many, 6), call, GAME, WORLD, OLD, rows)
            self.raises(InvalidRows, (1, 0), call, GAME, WORLD, (), ROWS[:1])

    def test_a_trace_from_another_world(self):
        for call in self.CALLS:
            self.raises(InvalidTrace, OLD[1:], call, GAME, WORLD, OLD[1:], ROWS[1:])
        self.raises(InvalidTrace, OLD[1:], touched_by, GAME, WORLD, OLD[1:], 9, 9, 99)

    def test_a_trace_with_wrong_presses(self):
        wrong = changed(OLD, 1, ((64, 0), OLD[1][1]))
        for call in self.CALLS:
            self.raises(InvalidTrace, wrong, call, GAME, WORLD, wrong, ROWS)

    def test_of_touched_by(self):
        self.raises(InvalidGame, WRONG_GAME, touched_by, WRONG_GAME, WRONG_WORLD, self.NO_TRACE, 9, 9, 99)
        self.raises(InvalidWorld, 32, touched_by, GAME, WRONG_WORLD, self.NO_TRACE, 9, 9, 99)
        self.raises(InvalidTrace, self.NO_TRACE, touched_by, GAME, WORLD, self.NO_TRACE, 9, 9, 99)
        for wrong in (-1, 6, 60):
            self.raises(InvalidNumber, wrong, touched_by, GAME, WORLD, OLD, wrong, 9, 99)
        for wrong in (-1, 2, 4):
            self.raises(InvalidNumber, wrong, touched_by, GAME, WORLD, OLD, 5, wrong, 99)
        for wrong in (-1, 64):
            self.raises(InvalidPress, (18, wrong), touched_by, GAME, WORLD, OLD, 1, 1, wrong)
            self.raises(InvalidPress, (wrong, 2), touched_by, GAME, WORLD, OLD, 5, 0, wrong)
        self.raises(InvalidNumber, 0, touched_by, GAME, WORLD, (), 0, 0, 0)


if __name__ == "__main__":
    unittest.main()
