"""The examples that the document prints."""

import unittest

from latepresses.boxes import around, gap, grown, meet, squares
from latepresses.cells import Looks, cells_of, first_world, is_world, kind_of_cell
from latepresses.floor import lot, meeting, moved_lot, stands_on
from latepresses.kept import best_plan, best_worst, cost, total
from latepresses.levels import blocks, is_free, is_game, lands, sign_at
from latepresses.texts import show_letter, show_rows, show_script
from latepresses.ticks import run, settled, tick

ROWS = ('........', '..=.....', '....^...', '########')
HERO = ('hero', 6, 8, ('bars', 'falls', 'frail'), (0, 0, 0, 0), ())
CRATE = ('crate', 8, 8, ('bars', 'falls', 'pushed'), (0, 0, 0, 0), ())
LEVEL = (ROWS, ((0, 0, 2, 16), (1, -1, 10, 16)), 1, 1)
GAME = (LEVEL, (HERO, CRATE))


class TestExamples(unittest.TestCase):
    def test_boxes(self):
        told = [meet((0, 0, 4, 4), (4, 0, 2, 2)), meet((0, 0, 4, 4), (3, 3, 2, 2)), grown((4, 4, 2, 2), 1),
                squares((6, 0, 4, 2), 8), gap((0, 0, 4, 4), (7, 2, 2, 2), 1, 0), gap((0, 0, 4, 4), (7, 5, 2, 2), 1, 0),
                around([(0, 0, 1, 1), (4, 2, 2, 2)])]
        self.assertEqual(told, [False, True, (3, 3, 4, 4), [(0, 0), (0, 1)], 3, None, (0, 0, 6, 4)])

    def test_levels(self):
        told = [is_game(GAME), sign_at(LEVEL, 20, 9), sign_at(LEVEL, -1, 0), is_free(LEVEL, (2, 16, 6, 8)),
                lands(LEVEL, (2, 16, 6, 8)), lands(LEVEL, (17, 0, 4, 8)), blocks(LEVEL)]
        self.assertEqual(told, [True, '=', '#', True, True, True, (1, 2)])

    def test_cells(self):
        world = first_world(GAME, 7)
        told = [cells_of(GAME), world[0], world[1], world[32], world[49:], is_world(GAME, world),
                kind_of_cell(GAME, 49)]
        self.assertEqual(told, [51, (0, 0, 2, 16, 0, 0, -1, (0, 0, 0, 0)), (1, -1, 10, 16, 0, 0, -1, (0, 0, 0, 0)), 7,
                                ((0, 1), ()), True, ('bucket', 0)])

    def test_floor(self):
        world = first_world(GAME, 7)
        looks = Looks(world)
        told = [meeting(GAME, looks, (6, 16, 6, 8), ()), lot(GAME, looks, 0, 1, 0), lot(GAME, looks, 0, 0, 1),
                stands_on(GAME, looks, 0)]
        self.assertEqual(told, [(0, 1), (0,), (), -1])
        near = moved_lot(GAME, world, (0,), 2, 0)
        self.assertEqual(lot(GAME, Looks(near), 0, 1, 0), (0, 1))

    def test_ticks(self):
        world = first_world(GAME, 7)
        told = [len(run(GAME, world, ((0,), (2,)))), tick(GAME, world, (0,))[16], settled(GAME, world, 5)]
        self.assertEqual(told, [3, (), 0])

    def test_kept(self):
        told = [cost((0, 4), 6), total((0, 4), (1,) * 6), best_plan((1,) * 6, 2), best_worst(7, 2)]
        self.assertEqual(told, [2, 7, (0, 3), (3, (0, 3))])

    def test_texts(self):
        told = show_script((('when', ('held', 1), (('go', ('number', 2), ('dy',)),),
                             (('own', 0, ('sum', ('own', 0), ('number', -1))),)),)).split('\n')
        self.assertEqual(told, ['when (held 1)', '  go 2 (dy)', 'else', '  own 0 = (sum (own 0) -1)', 'end'])
        self.assertEqual([show_rows(((0, 1), (None, 3))), show_letter((0, 4, (1, 0), None, (4, 2)))],
                         ['0,1 ?,3', '0 4 - 1,0 4,2'])
