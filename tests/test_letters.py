"""latepresses.letters."""

import copy
import random
import unittest

from cases import Case

from latepresses.errors import InvalidHouse, InvalidKnown, InvalidLetter, InvalidPlace, InvalidTick
from latepresses.letters import doubled, is_letter, letter, put, size_in_bits, taken
from latepresses.presses import learned
from test_presses import WRONG as WRONG_KNOWNS, random_known

EMPTY = (0, 0, (), None, ())
PLAIN = (1, 4, (1, 0), None, (4, 2))
ENDED = (2, 3, (63, 0, 5), 6, (3, 0, 9, 1))
WRONG = ((-1, 0, (), None, ()), (0, -1, (), None, ()), (0, 0, (64,), None, ()), (0, 0, (-1,), None, ()),
         (0, 0, (0,) * 33, None, ()), (0, 3, (1, 1), 4, ()), (0, 3, (), 2, ()), (0, 0, (), -1, ()),
         (0, 0, (), None, (-1,)), (0, 0, (), None, (0, 0, -1, 0)))
OTHER_FORMS = ((), None, 5, "text", [0, 0, (), None, ()], EMPTY[:4], EMPTY + (0,), (None, 0, (), None, ()),
               (0, None, (), None, ()), (0, 0, None, None, ()), (0, 0, [], None, ()), (0, 0, (), (), ()),
               (0, 0, (), None, None), (0, 0, (), None, []), (0, 0, (None,), None, ()), (0, 0, ((),), None, ()),
               (0, 0, (), None, (None,)), (0, 0, (), "0", ()), ("0", 0, (), None, ()), (True, 0, (), None, ()),
               (0, True, (), None, ()), (0, 0, (True,), None, ()), (0, 0, (), True, ()), (0, 0, (), None, (True,)))


class TestIsLetter(Case):
    def test_right_ones(self):
        for told in (EMPTY, PLAIN, ENDED, (9, 400, (), None, (0,)), (0, 0, (0,) * 32, 32, (1, 1, 1, 1))):
            self.assertIs(is_letter(told), True, told)
        self.assertIs(is_letter(told=EMPTY), True)

    def test_wrong_ones_and_other_forms(self):
        for told in WRONG + OTHER_FORMS:
            self.assertIs(is_letter(told), False, told)

    def test_houses_and_ticks_from_0_on(self):
        for number in range(-3, 7):
            for told in ((number, 0, (), None, ()), (0, number, (), None, ()), (0, 0, (), None, (3, number)),
                         (0, 0, (), number, ())):
                self.assertIs(is_letter(told), number >= 0, told)

    def test_at_most_32_presses_from_0_to_63(self):
        for many in range(40):
            self.assertIs(is_letter((0, 2, (7,) * many, None, ())), many <= 32)
        for press in range(-2, 67):
            self.assertIs(is_letter((0, 2, (7, press), None, ())), 0 <= press <= 63)

    def test_ends_are_not_below_first_and_the_length(self):
        for first in range(5):
            for many in range(4):
                for ends in range(12):
                    told = (0, first, (1,) * many, ends, ())
                    self.assertIs(is_letter(told), ends >= first + many, told)

    def test_heard_of_as_many_as_there_are(self):
        for many in range(7):
            self.assertIs(is_letter((0, 0, (), None, tuple(range(many)))), True)


class TestLetter(Case):
    def test_from_ticks_in_the_row_and_beside_it(self):
        known = (((1, 5), (2, 6), (3, 7), (6, 8), (7, 9)), None)
        rows = {0: (), 1: (5, 6, 7), 2: (6, 7), 3: (7,), 4: (), 5: (), 6: (8, 9), 7: (9,), 8: (), 30: ()}
        for first, row in rows.items():
            self.assertEqual(letter(2, known, first, (1, 2)), (2, first, row, None, (1, 2)))
        self.assertEqual(letter(house=0, known=known, first=2, heard=()), (0, 2, (6, 7), None, ()))

    def test_at_most_32_presses(self):
        row = tuple((tick, tick) for tick in range(40))
        for first in range(12):
            told = letter(0, (row, None), first, (0,))
            self.assertEqual(told, (0, first, tuple(range(first, min(first + 32, 40))), None, (0,)))
            self.assertTrue(is_letter(told))

    def test_ends_are_told_when_they_are_reached(self):
        row = tuple((tick, tick) for tick in range(40))
        for first, ends in ((0, None), (7, None), (8, 40), (9, 40), (39, 40), (40, 40)):
            self.assertEqual(letter(0, (row, 40), first, ())[3], ends, first)
        for first, ends in ((0, None), (2, None), (3, 4), (4, 4)):
            self.assertEqual(letter(0, (((0, 1), (3, 5)), 4), first, ())[3], ends, first)
        self.assertEqual(letter(0, ((), 0), 0, ()), (0, 0, (), 0, ()))
        self.assertEqual(letter(0, ((), 2), 0, ()), (0, 0, (), None, ()))

    def test_behind_ends_it_is_a_letter_all_the_same(self):
        self.assertEqual(letter(0, (((0, 1),), 1), 2, ()), (0, 2, (), None, ()))

    def test_random_ones_are_letters_and_tell_what_is_known(self):
        rng = random.Random(101)
        for _ in range(400):
            known = random_known(rng, 40)
            first = rng.randrange(45)
            told = letter(1, known, first, (3, 4))
            self.assertTrue(is_letter(told), (known, first))
            row, ends = known
            self.assertEqual(told[2], tuple(dict(row)[first + at] for at in range(len(told[2]))))
            self.assertTrue(len(told[2]) == 32 or first + len(told[2]) not in dict(row))
            self.assertEqual(told[3], ends if first + len(told[2]) == ends else None)
            self.assertEqual(learned(known, told[1], told[2], told[3]), known)

    def test_errors_in_their_order(self):
        known = (((0, 1),), None)
        for wrong in WRONG_KNOWNS:
            self.raises(InvalidHouse, -1, letter, -1, wrong, -1, ())
            self.raises(InvalidKnown, wrong, letter, 0, wrong, -1, ())
        for first in (-1, -7):
            self.raises(InvalidTick, first, letter, 0, known, first, ())
            self.raises(InvalidHouse, first, letter, first, known, 0, ())


class TestBag(Case):
    def test_put(self):
        self.assertEqual(put((), 3, PLAIN), ((3, PLAIN),))
        self.assertEqual(put(bag=((3, PLAIN),), to=0, letter=ENDED), ((3, PLAIN), (0, ENDED)))

    def test_put_of_wrong_ones(self):
        for wrong in WRONG + OTHER_FORMS:
            self.raises(InvalidLetter, wrong, put, (), -1, wrong)
        for to in (-1, -9):
            self.raises(InvalidHouse, to, put, (), to, PLAIN)

    def test_taken_and_doubled_at_each_place(self):
        bag = ((3, PLAIN), (0, ENDED), (1, EMPTY), (0, ENDED))
        for k in range(4):
            self.assertEqual(taken(bag, k), (bag[k], bag[:k] + bag[k + 1:]))
            self.assertEqual(doubled(bag, k), bag + (bag[k],))
        self.assertEqual(taken(bag=bag[:1], k=0), (bag[0], ()))
        self.assertEqual(doubled(bag=bag[:1], k=0), (bag[0], bag[0]))

    def test_places_beside_the_bag(self):
        bag = ((3, PLAIN), (0, ENDED))
        for call in (taken, doubled):
            for k in (-3, -2, -1, 2, 3, 50):
                self.raises(InvalidPlace, k, call, bag, k)
            self.raises(InvalidPlace, 0, call, (), 0)
            self.raises(InvalidPlace, -1, call, (), -1)

    def test_the_bag_handed_in_stays_as_it_is(self):
        bag = ((3, PLAIN), (0, ENDED))
        elder = copy.deepcopy(bag)
        put(bag, 1, EMPTY)
        taken(bag, 0)
        doubled(bag, 1)
        self.assertEqual(bag, elder)


class TestSize(Case):
    def test_counted_by_hand(self):
        for told, bits in ((EMPTY, 8 + 16 + 16 + 6), (PLAIN, 8 + 16 + 2 * 6 + 16 + 2 * 16 + 6),
                           (ENDED, 8 + 16 + 3 * 6 + 16 + 4 * 16 + 6), ((0, 0, (0,) * 32, 32, (0,)), 46 + 192 + 16)):
            self.assertEqual(size_in_bits(told), bits)
        self.assertEqual(size_in_bits(letter=EMPTY), 46)

    def test_wrong_ones(self):
        for wrong in WRONG + OTHER_FORMS:
            self.raises(InvalidLetter, wrong, size_in_bits, wrong)


if __name__ == "__main__":
    unittest.main()
