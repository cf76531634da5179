"""latepresses.presses."""

import random
import unittest

from cases import Case

from latepresses.errors import Clash, InvalidKnown, InvalidPress, InvalidTick
from latepresses.presses import (first_unlike, guess_at, guessed_rows, guesses, is_known, is_known_at, known_to,
                                 learned, sure_to)

NOTHING = ((), None)
HOLED = (((0, 5), (1, 6), (4, 7)), None)
LEFT = (((0, 5), (1, 6), (4, 7)), 6)
WHOLE = (((0, 5), (1, 0)), 2)
GONE = ((), 0)
WRONG = (((), -1), (((0, 64),), None), (((0, -1),), None), (((-1, 0),), None), (((1, 0), (0, 0)), None),
         (((0, 1), (0, 1)), None), (((3, 0),), 3), (((3, 0),), 2), (((0, 0),), 0))


def random_known(rng, most=12):
    ends = rng.choice((None, rng.randrange(most)))
    ticks = sorted(rng.sample(range(most if ends is None else ends), rng.randint(0, most if ends is None else ends)))
    return (tuple((tick, rng.choice((0, 0, 1, 63, 7))) for tick in ticks), ends)


def slow_press(known, tick):
    """The known press, None if it is not known."""
    row, ends = known
    return 0 if ends is not None and tick >= ends else dict(row).get(tick)


def slow_guess(known, tick):
    for at in range(tick, -1, -1):
        press = slow_press(known, at)
        if press is not None:
            return press
    return 0


class TestIsKnown(Case):
    def test_right_ones(self):
        for known in (NOTHING, HOLED, LEFT, WHOLE, GONE, (((0, 0),), 1), (((399, 63),), 400), ((), 7),
                      (((5, 0),), None)):
            self.assertIs(is_known(known), True, known)
        self.assertIs(is_known(told=NOTHING), True)

    def test_presses_from_0_to_63(self):
        for press in range(-2, 66):
            self.assertIs(is_known((((0, 1), (3, press)), None)), 0 <= press <= 63)

    def test_ticks_ascend_each_once_from_0_on(self):
        for one in range(-2, 4):
            for other in range(-2, 4):
                self.assertIs(is_known((((one, 1), (other, 1)), None)), 0 <= one < other)

    def test_ticks_are_below_ends(self):
        for tick in range(5):
            for ends in range(-2, 6):
                self.assertIs(is_known((((tick, 0),), ends)), tick < ends)
        self.assertIs(is_known(((), 0)), True)
        self.assertIs(is_known(((), -1)), False)

    def test_other_forms(self):
        for wrong in ((), ((),), ((), None, 1), (None, None), ((), ()), (((0,),), None), (((0, 1, 2),), None),
                      ((0,), None), (((None, 0),), None), (((0, None),), None), (((),), None), *WRONG):
            self.assertIs(is_known(wrong), False, wrong)


class TestAsked(Case):
    def test_known_to(self):
        for known, tick in ((NOTHING, 0), (HOLED, 2), (LEFT, 2), (WHOLE, None), (GONE, None), (((), 3), 0),
                            ((((0, 1),), 2), 1), ((((0, 1), (1, 1)), None), 2), ((((1, 1),), None), 0),
                            ((((1, 1),), 2), 0), ((((0, 1), (2, 1), (3, 1)), 4), 1)):
            self.assertEqual(known_to(known), tick, known)
        self.assertEqual(known_to(known=HOLED), 2)

    def test_is_known_at(self):
        for known, ticks in ((NOTHING, ()), (HOLED, (0, 1, 4)), (LEFT, (0, 1, 4, 6, 7, 8, 9)), (GONE, range(10))):
            for tick in range(10):
                self.assertIs(is_known_at(known, tick), tick in ticks)
        self.assertIs(is_known_at(known=LEFT, tick=400), True)

    def test_guess_at(self):
        for known, row in ((NOTHING, (0,) * 8), (HOLED, (5, 6, 6, 6, 7, 7, 7, 7)), (LEFT, (5, 6, 6, 6, 7, 7, 0, 0)),
                           (WHOLE, (5,) + (0,) * 7), ((((2, 9),), None), (0, 0, 9, 9, 9, 9, 9, 9)),
                           ((((2, 9),), 4), (0, 0, 9, 9, 0, 0, 0, 0)),
                           ((((2, 9), (4, 0)), None), (0, 0, 9, 9, 0, 0, 0, 0))):
            self.assertEqual(tuple(guess_at(known, tick) for tick in range(8)), row)
        self.assertEqual(guess_at(known=HOLED, tick=400), 7)

    def test_random_ones(self):
        rng = random.Random(91)
        for _ in range(300):
            known = random_known(rng)
            self.assertTrue(is_known(known))
            for tick in range(14):
                self.assertIs(is_known_at(known, tick), slow_press(known, tick) is not None)
                self.assertEqual(guess_at(known, tick), slow_guess(known, tick))
            unknown = [tick for tick in range(14) if slow_press(known, tick) is None]
            self.assertEqual(known_to(known), unknown[0] if unknown else None)

    def test_errors_in_their_order(self):
        for wrong in WRONG:
            self.raises(InvalidKnown, wrong, known_to, wrong)
            self.raises(InvalidKnown, wrong, is_known_at, wrong, -1)
            self.raises(InvalidKnown, wrong, guess_at, wrong, -1)
        for tick in (-1, -5):
            self.raises(InvalidTick, tick, is_known_at, HOLED, tick)
            self.raises(InvalidTick, tick, guess_at, GONE, tick)


class TestLearned(Case):
    def test_new_presses(self):
        self.assertEqual(learned(NOTHING, 0, (), None), NOTHING)
        self.assertEqual(learned(NOTHING, 3, (1, 0, 63), None), (((3, 1), (4, 0), (5, 63)), None))
        self.assertEqual(learned(HOLED, 2, (8, 9), None), (((0, 5), (1, 6), (2, 8), (3, 9), (4, 7)), None))
        self.assertEqual(learned(HOLED, 6, (8,), None), (((0, 5), (1, 6), (4, 7), (6, 8)), None))
        self.assertEqual(learned(known=HOLED, first=2, row=(8,), ends=None), (((0, 5), (1, 6), (2, 8), (4, 7)), None))
        self.assertEqual(len(learned(NOTHING, 9, (1,) * 32, None)[0]), 32)

    def test_known_ones(self):
        self.assertEqual(learned(HOLED, 0, (5, 6), None), HOLED)
        self.assertEqual(learned(HOLED, 1, (6, 8, 9, 7, 1), None),
                         (((0, 5), (1, 6), (2, 8), (3, 9), (4, 7), (5, 1)), None))

    def test_presses_of_0_from_ends_on_are_left_out(self):
        self.assertEqual(learned(WHOLE, 1, (0, 0, 0), None), WHOLE)
        self.assertEqual(learned(GONE, 0, (0, 0), None), GONE)
        self.assertEqual(learned(GONE, 50, (0,), None), GONE)
        self.assertEqual(learned(LEFT, 5, (3, 0, 0), None), (((0, 5), (1, 6), (4, 7), (5, 3)), 6))
        # Known ones, too, where ends are put for the first time.
        self.assertEqual(learned((((0, 5), (3, 0), (4, 0)), None), 1, (6,), 2), (((0, 5), (1, 6)), 2))

    def test_ends(self):
        self.assertEqual(learned(HOLED, 2, (), 6), LEFT)
        self.assertEqual(learned(HOLED, 2, (1, 1), 5), (((0, 5), (1, 6), (2, 1), (3, 1), (4, 7)), 5))
        self.assertEqual(learned(NOTHING, 0, (), 0), GONE)
        self.assertEqual(learned(LEFT, 2, (1,), 6), (((0, 5), (1, 6), (2, 1), (4, 7)), 6))
        self.assertEqual(learned(LEFT, 2, (1,), None), (((0, 5), (1, 6), (2, 1), (4, 7)), 6))
        self.assertEqual(learned(GONE, 0, (), 0), GONE)

    def test_clashes(self):
        for known, first, row, ends, tick in (
                (HOLED, 0, (4,), None, 0), (HOLED, 0, (5, 5, 1, 1, 1), None, 1), (HOLED, 2, (1, 1, 6), None, 4),
                (HOLED, 0, (1, 1, 1, 1, 1), None, 0), (LEFT, 5, (1, 1), None, 6), (LEFT, 9, (0, 1, 2), None, 10),
                (GONE, 0, (1,), None, 0), (HOLED, 0, (0,), None, 0)):
            self.raises(Clash, tick, learned, known, first, row, ends)

    def test_ends_that_clash_with_presses(self):
        self.raises(Clash, 4, learned, HOLED, 2, (), 4)
        self.raises(Clash, 4, learned, HOLED, 2, (), 2)
        self.raises(Clash, 0, learned, HOLED, 0, (), 0)
        self.raises(Clash, 1, learned, HOLED, 1, (), 1)
        self.raises(Clash, 1, learned, HOLED, 1, (5,), 3)
        self.raises(Clash, 4, learned, HOLED, 1, (6,), 3)

    def test_ends_that_differ(self):
        for ends, tick in ((5, 5), (7, 6), (400, 6), (0, 0)):
            self.raises(Clash, tick, learned, LEFT, 0, (), ends)
        # The least of all.
        self.raises(Clash, 1, learned, LEFT, 1, (5,), 5)
        self.raises(Clash, 5, learned, LEFT, 5, (), 5)
        self.raises(Clash, 6, learned, LEFT, 5, (1, 0, 1), 8)
        self.raises(Clash, 6, learned, LEFT, 5, (1, 0, 0), 8)
        self.raises(Clash, 0, learned, GONE, 0, (1, 1), 2)
        self.raises(Clash, 3, learned, (((4, 1),), 5), 0, (), 3)

    def test_random_letters(self):
        rng = random.Random(92)
        found = {True: 0, False: 0}
        for _ in range(3000):
            known, first = random_known(rng), rng.randrange(10)
            row = tuple(rng.choice((0, 1, slow_guess(known, first + at), slow_guess(known, first + at)))
                        for at in range(rng.randrange(5)))
            ends = rng.choice((None, first + len(row) + rng.randrange(3), known[1]))
            if ends is not None and ends < first + len(row):
                ends = None
            letter = (tuple((first + at, press) for at, press in enumerate(row)), ends)
            both = [(slow_press(known, tick), slow_press(letter, tick)) for tick in range(40)]
            clashes = [tick for tick, (one, other) in enumerate(both) if None not in (one, other) and one != other]
            if None not in (known[1], ends) and known[1] != ends:
                clashes.append(min(known[1], ends))
            found[bool(clashes)] += 1
            if clashes:
                self.raises(Clash, min(clashes), learned, known, first, row, ends)
                continue
            told = learned(known, first, row, ends)
            self.assertTrue(is_known(told))
            self.assertEqual(told[1], ends if known[1] is None else known[1])
            for tick, (one, other) in enumerate(both):
                self.assertEqual(slow_press(told, tick), other if one is None else one)
        self.assertGreater(min(found.values()), 300)

    def test_errors_in_their_order(self):
        for wrong in WRONG:
            self.raises(InvalidKnown, wrong, learned, wrong, -1, (64,), -1)
        for press in (-1, 64):
            self.raises(InvalidPress, press, learned, HOLED, -1, (0, press, 99), -2)
        self.raises(InvalidTick, -1, learned, HOLED, -1, (0,), -2)
        self.raises(InvalidTick, -2, learned, HOLED, 0, (4,), -2)
        self.raises(Clash, 0, learned, HOLED, 0, (4,), 2)


class TestSeveral(Case):
    KNOWNS = (HOLED, LEFT, NOTHING, WHOLE)

    def test_guesses(self):
        self.assertEqual(guesses(self.KNOWNS, 0), (5, 5, 0, 5))
        self.assertEqual(guesses(self.KNOWNS, 3), (6, 6, 0, 0))
        self.assertEqual(guesses(knowns=self.KNOWNS, tick=6), (7, 0, 0, 0))
        self.assertEqual(guesses((), 6), ())

    def test_guessed_rows(self):
        self.assertEqual(guessed_rows(self.KNOWNS, 0), ())
        self.assertEqual(guessed_rows(self.KNOWNS, 7), tuple(guesses(self.KNOWNS, tick) for tick in range(7)))
        self.assertEqual(guessed_rows(knowns=(HOLED,), end=3), ((5,), (6,), (6,)))

    def test_sure_to(self):
        for knowns, tick in ((self.KNOWNS, 0), ((HOLED, LEFT, WHOLE), 2), ((WHOLE, GONE), None), ((WHOLE,), None),
                             ((), None), ((WHOLE, (((0, 1), (1, 1), (2, 1)), None), GONE), 3)):
            self.assertEqual(sure_to(knowns), tick)
        self.assertEqual(sure_to(knowns=(HOLED,)), 2)

    def test_first_unlike(self):
        newer = (HOLED, (((0, 5), (1, 6), (2, 6), (3, 2), (4, 7)), 6), NOTHING, WHOLE)
        for begin, end, tick in ((0, 9, 3), (3, 9, 3), (3, 4, 3), (4, 9, None), (0, 3, None), (3, 3, None),
                                 (5, 2, None), (0, 0, None), (0, 400, 3)):
            self.assertEqual(first_unlike(self.KNOWNS, newer, begin, end), tick)
            self.assertEqual(first_unlike(elder=newer, newer=self.KNOWNS, begin=begin, end=end), tick)
        self.assertIsNone(first_unlike(self.KNOWNS, self.KNOWNS, 0, 50))
        # What is known now and was guessed so is no other guess.
        self.assertIsNone(first_unlike((HOLED,), ((HOLED[0][:2] + ((2, 6),) + HOLED[0][2:], None),), 0, 50))
        self.assertEqual(first_unlike((HOLED,), (LEFT,), 0, 50), 6)

    def test_random_ones(self):
        rng = random.Random(93)
        for _ in range(200):
            one, other = [tuple(random_known(rng) for _ in range(3)) for _ in range(2)]
            if rng.random() < 0.6:
                other = (one[0], one[1], other[2])
            rows = [tuple(tuple(slow_guess(known, tick) for known in knowns) for tick in range(14))
                    for knowns in (one, other)]
            self.assertEqual(guessed_rows(one, 14), rows[0])
            begin, end = rng.randrange(14), rng.randrange(14)
            unlike = [tick for tick in range(begin, end) if rows[0][tick] != rows[1][tick]]
            self.assertEqual(first_unlike(one, other, begin, end), unlike[0] if unlike else None)

    def test_400_ticks(self):
        known = (tuple((tick, tick % 64) for tick in range(400)), None)
        self.assertEqual(guessed_rows((known,) * 4, 400), tuple((tick % 64,) * 4 for tick in range(400)))
        self.assertIsNone(first_unlike((known,) * 4, (known,) * 4, 0, 400))

    def test_errors_in_their_order(self):
        knowns = (HOLED, WRONG[1], WRONG[2])
        self.raises(InvalidKnown, WRONG[1], guesses, knowns, -1)
        self.raises(InvalidKnown, WRONG[1], guessed_rows, knowns, -1)
        self.raises(InvalidKnown, WRONG[1], sure_to, knowns)
        self.raises(InvalidKnown, WRONG[1], first_unlike, knowns, (WRONG[3],), -1, -2)
        self.raises(InvalidKnown, WRONG[3], first_unlike, (HOLED,), (WRONG[3],), -1, -2)
        self.raises(InvalidTick, -1, guesses, (HOLED,), -1)
        self.raises(InvalidTick, -2, guessed_rows, (HOLED,), -2)
        self.raises(InvalidTick, -1, first_unlike, (HOLED,), (HOLED,), -1, -2)
        self.raises(InvalidTick, -2, first_unlike, (HOLED,), (HOLED,), 3, -2)


if __name__ == "__main__":
    unittest.main()
