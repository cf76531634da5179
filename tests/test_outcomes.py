"""latepresses.outcomes."""

import random
import unittest
from itertools import product

from cases import Case, changed
from samples import first, played_game, random_game, random_presses
from test_redone import n, still_game

from latepresses.cells import first_world
from latepresses.errors import InvalidCell, InvalidGame, InvalidMenu, InvalidPress, InvalidRows, InvalidWorld
from latepresses.outcomes import filled, hangs_on, is_sure, islands, open_places, outcomes, parting
from latepresses.ticks import last

GAME = played_game(2)
WORLD = first_world(GAME, 5)
WRONG_GAME = (GAME[0], ())
WRONG_WORLD = changed(WORLD, 32, 65537)
MARK = 33


def added(mark, key, by=1):
    return ("mark", mark, ("sum", ("mark", mark), ("times", ("held", key), n(by))))


class Plain:
    """All that is asked, by the words of the document, over all fillings."""

    def __init__(self, game, world, rows, menu):
        self.places = [(t, h) for t, row in enumerate(rows) for h, press in enumerate(row) if press is None]
        self.ends = {}
        for presses in product(menu, repeat=len(self.places)):
            put = dict(zip(self.places, presses))
            whole = tuple(tuple(put.get((t, h), press) for h, press in enumerate(row)) for t, row in enumerate(rows))
            self.ends[presses] = last(game, world, whole)

    def outcomes(self, cell):
        found = []
        for presses in sorted(self.ends):
            if self.ends[presses][cell] not in found:
                found.append(self.ends[presses][cell])
        return found

    def hangs_on(self, cell):
        found = []
        for at, place in enumerate(self.places):
            by_others = {}
            for presses, end in self.ends.items():
                by_others.setdefault(presses[:at] + presses[at + 1:], set()).add(end[cell])
            if any(len(values) > 1 for values in by_others.values()):
                found.append(place)
        return tuple(found)

    def parting(self, cell):
        fillings = sorted(self.ends)
        for presses in fillings:
            if self.ends[presses][cell] != self.ends[fillings[0]][cell]:
                return (fillings[0], presses)
        return None

    def islands(self, cells):
        hung = [self.hangs_on(cell) for cell in range(cells)]
        groups = []
        for place in self.places:
            group, added = {place}, True
            while added:
                more = {other for told in hung if group & set(told) for other in told} - group
                added = bool(more)
                group |= more
            if sorted(group) not in groups:
                groups.append(sorted(group))
        return sorted(groups)


class TestPlaces(Case):
    def test_open_places(self):
        self.assertEqual(open_places(()), ())
        self.assertEqual(open_places(((0, 1), (2, 3))), ())
        self.assertEqual(open_places(((None, 1), (2, None), (None, None))), ((0, 0), (1, 1), (2, 0), (2, 1)))
        self.assertEqual(open_places(rows=((0,), (None,))), ((1, 0),))

    def test_filled(self):
        rows = ((None, 1), (2, None), (None, None), (0, 63))
        self.assertEqual(filled(rows, (4, 5, 6, 7)), ((4, 1), (2, 5), (6, 7), (0, 63)))
        self.assertEqual(filled(rows=(), presses=()), ())
        self.assertEqual(filled(((1,), (2,)), ()), ((1,), (2,)))
        self.assertEqual(open_places(filled(rows, (0, 0, 0, 0))), ())

    def test_filled_with_too_few_or_too_many(self):
        rows = ((None, 1), (2, None))
        for many in (0, 1, 3, 4):
            self.raises(InvalidRows, (2, many), filled, rows, (0,) * many)
        self.raises(InvalidRows, (0, 1), filled, ((1, 2),), (0,))

    def test_wrong_rows(self):
        for wrong in ((64, None), (None, -1), (None, "0"), ((), 0)):
            for rows in ((wrong,), ((0, None), wrong, (99, 99))):
                self.raises(InvalidPress, wrong, open_places, rows)
                self.raises(InvalidPress, wrong, filled, rows, (0,) * 9)


class TestAgainstAllFillings(Case):
    def check(self, game, world, rows, menu, cells):
        plain = Plain(game, world, rows, menu)
        for cell in cells:
            told = outcomes(game, world, rows, menu, cell)
            self.assertEqual(told, plain.outcomes(cell))
            self.assertEqual(hangs_on(game, world, rows, menu, cell), plain.hangs_on(cell))
            self.assertIs(is_sure(game, world, rows, menu, cell), len(told) == 1)
            self.assertEqual(parting(game, world, rows, menu, cell), plain.parting(cell))
            # A cell takes one value exactly if no place changes it alone.
            self.assertEqual(len(told) == 1, hangs_on(game, world, rows, menu, cell) == ())
        self.assertEqual(islands(game, world, rows, menu), plain.islands(len(world)))

    def test_a_played_game(self):
        for rows, menu in ((((None, 0), (0, None)), (0, 2, 16, 32)), (((None, None), (4, 0), (None, 1)), (0, 18)),
                           (((2, 16), (None, 4), (0, 32)), tuple(range(0, 64, 5))), (((None, None),), (1, 4, 34))):
            self.check(GAME, WORLD, rows, menu, (0, 1, 6, 7, 8, 16, 17, 32, 33, 34, 49, 51))

    def test_random_games(self):
        rng = random.Random(51)
        for _ in range(8):
            game = random_game(rng)
            rows = [random_presses(rng, game) for _ in range(3)]
            for _ in range(4):
                t, h = rng.randrange(3), rng.randrange(game[0][2])
                rows[t] = changed(rows[t], h, None)
            menu = tuple(sorted(rng.sample(range(64), 2)))
            self.check(game, first(game), tuple(rows), menu, (*range(0, 6), 16, 32, *range(33, 37), 49))

    def test_places_that_matter_only_together(self):
        # Mark 2 becomes 1 if both houses hold b; each place changes it alone beside the other one's press.
        game = still_game((("mark", 0, ("held", 5)),), (("mark", 2, ("both", ("mark", 0), ("held", 5))),), houses=2)
        self.check(game, first(game), ((None, None),), (0, 32), range(30, 40))
        self.assertEqual(hangs_on(game, first(game), ((None, None),), (0, 32), MARK + 2), ((0, 0), (0, 1)))

    def test_256_fillings_of_6_ticks(self):
        rows = ((None, 0), (None, 0), (None, 0), (None, 0), (0, 0), (0, 0))
        told = outcomes(GAME, WORLD, rows, (0, 1, 2, 32), MARK)
        self.assertEqual(told, [0, 1, 2, 3, 4])


class TestOrder(Case):
    def test_in_the_order_of_the_fillings_that_first_have_them(self):
        # Mark 0 becomes 0, 7, 5 or 3 by left and right.
        rules = (("mark", 0, ("pick", ("held", 0), ("pick", ("held", 1), n(3), n(7)),
                              ("pick", ("held", 1), n(5), n(0)))),)
        game = still_game(rules)
        world = first(game)
        self.assertEqual(outcomes(game, world, ((None,),), (0, 1, 2, 3), MARK), [0, 7, 5, 3])
        self.assertEqual(outcomes(game, world, ((None,),), (1, 3, 4, 9), MARK), [7, 3, 0])
        self.assertEqual(outcomes(game, world, ((None,), (None,)), (1, 2), MARK), [7, 5])
        self.assertEqual(parting(game, world, ((None,), (None,)), (1, 2), MARK), ((1, 1), (1, 2)))
        self.assertEqual(parting(game, world, ((None,), (1,), (None,)), (1, 5, 6), MARK), ((1, 1), (1, 6)))
        self.assertIsNone(parting(game, world, ((None,), (1,), (None,)), (1, 5, 9), MARK))

    def test_values_of_every_kind_of_cell(self):
        rules = (("when", ("held", 0), (("gone",),), ()),)
        game = still_game(rules)
        world = first(game)
        self.assertEqual(outcomes(game, world, ((None,),), (0, 1), 0), [world[0], None])
        self.assertEqual(outcomes(game, world, ((None,),), (0, 1), 49), [(0,), ()])
        self.assertEqual(outcomes(game, world, ((None,),), (0, 1), 32), [7])


class TestIslands(Case):
    def test_places_that_hang_together_by_a_third(self):
        # Mark 0 hangs on the houses 0 and 1, mark 1 on 1 and 2; nothing hangs on 0 and 2 together.
        game = still_game((added(0, 0),), (added(0, 0, 2), added(1, 0)), (added(1, 0, 2),), houses=3)
        world = first(game)
        self.assertEqual([hangs_on(game, world, ((None,) * 3,), (0, 1), MARK + mark) for mark in (0, 1, 2)],
                         [((0, 0), (0, 1)), ((0, 1), (0, 2)), ()])
        self.assertEqual(islands(game, world, ((None,) * 3,), (0, 1)), [[(0, 0), (0, 1), (0, 2)]])
        self.assertEqual(islands(game, world, ((None, 0, None),), (0, 1)), [[(0, 0)], [(0, 2)]])

    def test_by_a_third_that_comes_last(self):
        # Mark 0 hangs on 0 and 2, mark 1 on 1 and 3, mark 2 on 2 and 3.
        game = still_game((added(0, 0),), (added(1, 0),), (added(0, 0, 2), added(2, 0)),
                          (added(1, 0, 2), added(2, 0, 2)), houses=4)
        self.assertEqual(islands(game, first(game), ((None,) * 4,), (0, 1)), [[(0, 0), (0, 1), (0, 2), (0, 3)]])
        self.assertEqual(islands(game, first(game), ((None, None, None, 0),), (0, 1)), [[(0, 0), (0, 2)], [(0, 1)]])

    def test_places_on_which_nothing_hangs_stand_alone(self):
        game = still_game((added(0, 0),), (("mark", 1, ("held", 1)),), houses=2)
        world = first(game)
        rows = ((None, None), (None, None), (1, None))
        self.assertEqual(islands(game, world, rows, (0, 3)), [[(0, 0), (1, 0)], [(0, 1)], [(1, 1)], [(2, 1)]])
        self.assertEqual(hangs_on(game, world, rows, (0, 3), MARK + 1), ((2, 1),))
        self.assertEqual(islands(game, world, rows, (0, 4)), [[(0, 0)], [(0, 1)], [(1, 0)], [(1, 1)], [(2, 1)]])

    def test_lists_are_new(self):
        one, other = [islands(GAME, WORLD, ((None, 0),), (0, 1)) for _ in range(2)]
        self.assertIs(one is other or one[0] is other[0], False)


class TestNothingIsLeft(Case):
    def test_no_open_press_at_all(self):
        rows = ((2, 16), (0, 32))
        world = last(GAME, WORLD, rows)
        for cell in (0, 33, 49):
            self.assertEqual(outcomes(GAME, WORLD, rows, (0, 5), cell), [world[cell]])
            self.assertEqual(hangs_on(GAME, WORLD, rows, (0, 5), cell), ())
            self.assertIs(is_sure(GAME, WORLD, rows, (0, 5), cell), True)
            self.assertIsNone(parting(GAME, WORLD, rows, (0, 5), cell))
        self.assertEqual(islands(GAME, WORLD, rows, (0, 5)), [])

    def test_no_ticks(self):
        self.assertEqual(outcomes(GAME, WORLD, (), (3,), 32), [5])
        self.assertEqual(islands(GAME, WORLD, (), (3,)), [])

    def test_a_menu_of_one_press(self):
        rows = ((None, 16), (None, None))
        world = last(GAME, WORLD, ((32, 16), (32, 32)))
        self.assertEqual(outcomes(GAME, WORLD, rows, (32,), 33), [world[33]])
        self.assertEqual(hangs_on(GAME, WORLD, rows, (32,), 33), ())
        self.assertIs(is_sure(GAME, WORLD, rows, (32,), 33), True)
        self.assertIsNone(parting(GAME, WORLD, rows, (32,), 33))
        self.assertEqual(islands(GAME, WORLD, rows, (32,)), [[(0, 0)], [(1, 0)], [(1, 1)]])

    def test_by_name(self):
        for call in (outcomes, hangs_on, is_sure, parting):
            self.assertEqual(call(game=GAME, world=WORLD, rows=((None, 0),), menu=(0, 1), cell=0),
                             call(GAME, WORLD, ((None, 0),), (0, 1), 0))
        self.assertEqual(islands(game=GAME, world=WORLD, rows=((None, 0),), menu=(0, 1)), [[(0, 0)]])


class TestErrors(Case):
    CALLS = (outcomes, hangs_on, is_sure, parting)

    def calls(self):
        for call in self.CALLS:
            yield lambda game, world, rows, menu, call=call: call(game, world, rows, menu, 999)
        yield islands

    def test_in_their_order(self):
        for call in self.calls():
            self.raises(InvalidGame, WRONG_GAME, call, WRONG_GAME, WRONG_WORLD, ((64, 0),), ())
            self.raises(InvalidWorld, 32, call, GAME, WRONG_WORLD, ((64, 0),), ())
            for wrong in ((64, None), (None, -1), (None, "a"), (None,), (0, None, 0), (), (None, (1,))):
                self.raises(InvalidPress, wrong, call, GAME, WORLD, ((None, 0), wrong, (99, 0)), ())
            for wrong in ((), (64,), (-1, 0), (0, 0), (2, 1), (0, 2, 1), (0, 64)):
                self.raises(InvalidMenu, wrong, call, GAME, WORLD, ((None, 0),), wrong)
                self.raises(InvalidMenu, wrong, call, GAME, WORLD, ((0, 0),), wrong)

    def test_cells_that_there_are_not(self):
        for call in self.CALLS:
            for wrong in (-1, len(WORLD), 999):
                self.raises(InvalidCell, wrong, call, GAME, WORLD, ((None, 0),), (0, 1), wrong)
            call(GAME, WORLD, ((None, 0),), (0, 63), len(WORLD) - 1)


if __name__ == "__main__":
    unittest.main()
