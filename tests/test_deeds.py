"""latepresses.deeds: for each phase what is written, and what is looked at."""

import unittest

from latepresses.cells import Looks, first_world, is_world, with_thing
from latepresses.deeds import all_deeds, done, hears
from latepresses.errors import InvalidGame, InvalidPair, InvalidPress

# 9 by 6 squares: 72 by 48 units, buckets 49 to 51 over 52 to 54; without spikes, water and belts.
ROWS = (".........", ".........", "..=......", ".........", "....#....", "....#....")
OWN = (0, 0, 0, 0)
RULED, CRATE, STONE, GHOST, MIST, BIRD, CART, FRAIL = range(8)


def kinds_with(rules=(), traits=("bars", "falls"), own=(1, 2, 3, 4)):
    """The kinds of all games here; the first one has rules."""
    return (("ruled", 8, 8, traits, own, rules), ("crate", 8, 8, ("bars", "falls", "pushed"), OWN, ()),
            ("stone", 8, 8, ("bars", "falls"), OWN, ()), ("ghost", 8, 8, ("falls",), OWN, ()),
            ("mist", 8, 8, (), OWN, ()), ("bird", 8, 8, ("bars",), OWN, ()),
            ("cart", 8, 8, ("bars", "carries", "pushed"), OWN, ()), ("frail", 8, 8, ("falls", "frail"), OWN, ()))


def game_of(rules=(), rows=ROWS, houses=2, pull=1, traits=("bars", "falls")):
    return ((rows, (), houses, pull), kinds_with(rules, traits))


GAME = game_of()


def thing(kind, x, y, dx=0, dy=0, rest=-2, house=-1, own=OWN):
    return (kind, house, x, y, dx, dy, rest, own)


def world_of(game, *things, cells=()):
    """A world with things, some of them None, in the slots from 0 on, and some other (cell, value)."""
    world = first_world(game, 7)
    for slot, told in enumerate(things):
        if told is not None:
            world = with_thing(game, world, slot, told)
    for cell, value in cells:
        world = world[:cell] + (value,) + world[cell + 1:]
    return world


def n(number):
    return ("number", number)


class DeedCase(unittest.TestCase):
    def deed(self, game, world, deed, presses=None):
        """Does a deed and returns (what it writes, the cells that it looked at)."""
        looks = Looks(world)
        writes = done(game, presses or (0,) * game[0][2], deed, looks)
        self.assertEqual([cell for cell, _ in writes], sorted({cell for cell, _ in writes}))
        self.assertTrue(all(world[cell] != value for cell, value in writes))
        self.assertTrue({cell for cell, _ in writes} <= {cell for cell, _ in looks.seen()})
        return writes, tuple(cell for cell, _ in looks.seen())


class TestAllDeeds(DeedCase):
    def test_their_order(self):
        deeds = all_deeds()
        self.assertEqual(len(deeds), 80)
        self.assertEqual(deeds, tuple((phase, slot) for phase in range(5) for slot in range(16)))

    def test_a_slot_in_which_no_thing_stands(self):
        world = world_of(GAME, None, thing(CRATE, 0, 0))
        for phase, slot in all_deeds():
            if slot != 1:
                self.assertEqual(self.deed(GAME, world, (phase, slot)), ((), (slot,)))

    def test_by_name(self):
        looks = Looks(world_of(GAME, thing(CRATE, 0, 0)))
        self.assertEqual(done(game=GAME, presses=(0, 0), deed=(3, 0), looks=looks), ())
        self.assertEqual(hears(game=GAME, deed=(0, 0), thing=None), -1)


class TestScripts(DeedCase):
    def run_rules(self, rules, *things, mine=None, press=0, cells=(), traits=("bars", "falls"), rows=ROWS):
        game = game_of(rules, traits=traits, rows=rows)
        world = world_of(game, mine or thing(RULED, 20, 16, 1, 2, -2, 1, (1, 2, 3, 4)), *things, cells=cells)
        self.world = world
        return self.deed(game, world, (0, 0), (0, press))

    def test_no_rules(self):
        self.assertEqual(self.run_rules(()), ((), (0,)))

    def test_way_and_own_are_written(self):
        writes, cells = self.run_rules((("go", n(-3), n(4)), ("own", 2, n(9))))
        self.assertEqual(writes, ((0, thing(RULED, 20, 16, -3, 4, -2, 1, (1, 2, 9, 4))),))
        self.assertEqual(cells, (0,))
        self.assertEqual(self.run_rules((("go", n(1), n(2)), ("own", 0, n(1)))), ((), (0,)))

    def test_the_press_of_its_house_is_heard(self):
        rules = (("own", 0, ("sum", ("held", 0), ("times", n(10), ("held", 5)))),)
        for press, own in ((0, 0), (1, 1), (32, 10), (33, 11), (30, 0)):
            writes, _ = self.run_rules(rules, press=press)
            self.assertEqual(writes[0][1][7][0] if writes else 1, own)
        game = game_of(rules)
        for house, own in ((0, 11), (1, 10), (-1, 0)):
            world = world_of(game, thing(RULED, 20, 16, house=house, own=(5, 0, 0, 0)))
            self.assertEqual(self.deed(game, world, (0, 0), (33, 32))[0][0][1][7][0], own)
        mine = thing(RULED, 20, 16, house=-1, own=(5, 0, 0, 0))
        self.assertEqual(self.run_rules(rules, mine=mine, press=63)[0][0][1][7][0], 0)
        mine = thing(RULED, 20, 16, house=0, own=(5, 0, 0, 0))
        self.assertEqual(self.run_rules(rules, mine=mine, press=63)[0][0][1][7][0], 0)

    def test_marks_that_stand_in_the_rules_are_looked_at(self):
        rules = (("when", n(0), (("mark", 3, n(1)),), (("mark", 9, ("sum", ("mark", 0), n(5))),)),)
        self.assertEqual(self.run_rules(rules, cells=((33, 2), (36, 8))), (((42, 7),), (0, 33, 36, 42)))
        self.assertEqual(self.run_rules(rules, cells=((42, 5),)), ((), (0, 33, 36, 42)))

    def test_the_seed_is_looked_at_and_written(self):
        rules = (("own", 0, ("drawn", 99)),)
        writes, cells = self.run_rules(rules)
        self.assertEqual((writes[0][1][7], writes[1]), ((599 % 99, 2, 3, 4), (32, 599)))
        self.assertEqual(cells, (0, 32))
        self.assertEqual(self.run_rules((("when", n(0), rules, ()),)), ((), (0, 32)))
        self.assertEqual(self.run_rules((("own", 0, ("pick", ("drawn", 1), n(1), n(1))),), cells=((32, 65536),)),
                         ((), (0, 32)))

    def test_met_things_that_stand_now(self):
        rules = (("own", 0, ("met", STONE)), ("own", 1, ("met own", STONE, 2)), ("own", 2, ("met", BIRD)))
        things = (thing(STONE, 40, 0, own=(1, 2, 7, 4)), None, thing(STONE, 60, 0), thing(BIRD, 0, 0))
        writes, cells = self.run_rules(rules, *things, cells=((16, (1, 2, 3)),))
        self.assertEqual(writes, ((0, thing(RULED, 20, 16, 1, 2, -2, 1, (2, 7, 0, 4))),))
        self.assertEqual(cells, (0, 1, 2, 3, 16))
        self.assertEqual(self.run_rules(rules, *things)[1], (0, 16))
        self.assertEqual(self.run_rules((("own", 0, n(1)),), *things, cells=((16, (1, 3)),)), ((), (0,)))

    def test_the_first_met_thing_is_of_the_least_slot(self):
        rules = (("own", 0, ("met own", STONE, 0)),)
        things = (None, thing(STONE, 40, 0, own=(8, 0, 0, 0)), thing(STONE, 60, 0, own=(9, 0, 0, 0)))
        writes, cells = self.run_rules(rules, *things, cells=((16, (1, 2, 3)),))
        self.assertEqual((writes[0][1][7][0], cells), (8, (0, 1, 2, 3, 16)))

    def test_a_thing_of_another_slot_reads_its_own_met_cell(self):
        game = game_of((("own", 0, ("met", STONE)),))
        world = world_of(game, thing(STONE, 40, 0), None, thing(RULED, 20, 16),
                         cells=((16, (2,)), (18, (0, 5)), (17, ()), (14, None)))
        writes, cells = self.deed(game, world, (0, 2))
        self.assertEqual((writes[0][1][7][0], cells), (1, (0, 2, 5, 18)))

    def test_signs_here_and_below(self):
        rows = ("....", "w^..", "####", "....")
        rules = (("own", 0, ("here", "w")), ("own", 1, ("under", "^")), ("own", 2, ("under", "#")),
                 ("own", 3, ("here", ".")))
        for x, y, own in ((0, 8, (1, 0, 1, 0)), (3, 8, (1, 0, 1, 0)), (4, 8, (0, 0, 1, 0)), (5, 0, (0, 1, 0, 1)),
                          (0, 3, (0, 0, 0, 1)), (0, 4, (1, 0, 0, 0)), (16, 8, (0, 0, 1, 1)), (16, 7, (0, 0, 0, 1))):
            mine = thing(RULED, x, y, own=(9, 9, 9, 9))
            writes, cells = self.run_rules(rules, mine=mine, rows=rows)
            self.assertEqual((writes[0][1][7], cells), (own, (0,)), (x, y))

    def test_below_the_floor_is_air(self):
        rules = (("own", 0, ("under", ".")), ("own", 1, ("here", ".")))
        for y in (24, 28, 31):
            writes, _ = self.run_rules(rules, mine=thing(RULED, 8, y, own=(9, 9, 0, 0)), rows=("....",) * 4)
            self.assertEqual(writes[0][1][7][:2], (1, 1))

    def test_a_birth_in_the_least_free_slot(self):
        rules = (("born", MIST, n(10), n(-16), n(7), n(-7)),)
        writes, cells = self.run_rules(rules, thing(BIRD, 0, 0), None, thing(BIRD, 0, 40))
        self.assertEqual(writes, ((2, thing(MIST, 30, 0, 7, -7, -2, 1)), (49, (0, 1, 2)), (50, (2,))))
        self.assertEqual(cells, (0, 1, 2, 49, 50))

    def test_the_own_numbers_of_a_birth_are_its_kinds(self):
        rules = (("own", 0, n(50)), ("born", RULED, n(20), n(0), n(0), n(0)))
        writes, _ = self.run_rules(rules)
        self.assertEqual(writes[1], (1, thing(RULED, 40, 16, 0, 0, -2, 1, (1, 2, 3, 4))))
        self.assertEqual(writes[0][1][7], (50, 2, 3, 4))

    def test_a_birth_of_what_bars_looks_for_room(self):
        rules = (("born", CRATE, n(10), n(0), n(0), n(0)),)
        writes, cells = self.run_rules(rules, thing(MIST, 30, 16), thing(GHOST, 4, 4), thing(BIRD, 30, 24))
        self.assertEqual(writes, ((4, thing(CRATE, 30, 16, house=1)), (49, (0, 1, 2, 3, 4)), (50, (1, 3, 4))))
        self.assertEqual(cells, (0, 1, 2, 3, 4, 49, 50))
        writes, cells = self.run_rules(rules, thing(MIST, 30, 16), thing(GHOST, 4, 4), thing(BIRD, 30, 23))
        self.assertEqual((writes, cells), ((), (0, 1, 2, 3, 4, 49, 50)))

    def test_a_birth_of_what_does_not_bar_needs_no_room(self):
        rules = (("born", GHOST, n(10), n(0), n(0), n(0)),)
        writes, cells = self.run_rules(rules, thing(BIRD, 30, 16), thing(BIRD, 4, 4))
        self.assertEqual(writes, ((3, thing(GHOST, 30, 16, house=1)), (49, (0, 1, 2, 3)), (50, (1, 3))))
        self.assertEqual(cells, (0, 1, 2, 3, 49, 50))

    def test_no_birth_in_walls_or_below_the_floor(self):
        for a, b in ((12, 16), (-21, 0), (45, 0), (0, -17), (0, 32), (0, 60), (60, 40)):
            for kind in (CRATE, MIST):
                writes, cells = self.run_rules((("born", kind, n(a), n(b), n(0), n(0)),), thing(BIRD, 60, 40))
                self.assertEqual((writes, cells), ((), (0, 1, 2)), (a, b))
        writes, cells = self.run_rules((("born", CRATE, n(0), n(31), n(0), n(0)),))
        self.assertEqual((writes[0], cells), ((1, thing(CRATE, 20, 47, house=1)), (0, 1, 52)))

    def test_no_birth_where_no_slot_is_free(self):
        others = [thing(MIST, 60, 0)] * 15
        for kind in (CRATE, MIST):
            self.assertEqual(self.run_rules((("born", kind, n(10), n(0), n(0), n(0)),), *others),
                             ((), tuple(range(16))))
        writes, cells = self.run_rules((("born", MIST, n(-10), n(0), n(0), n(0)),) * 2, *others[:14])
        self.assertEqual(writes, ((15, thing(MIST, 10, 16, house=1)), (49, (0, 15))))
        self.assertEqual(cells, (*range(16), 49))

    def test_two_births_at_once(self):
        born = ("born", CRATE, n(10), n(0), n(0), n(0))
        beside = ("born", CRATE, n(18), n(0), n(0), n(0))
        writes, cells = self.run_rules((born, beside))
        self.assertEqual(writes, ((1, thing(CRATE, 30, 16, house=1)), (2, thing(CRATE, 38, 16, house=1)),
                                  (49, (0, 1)), (50, (1, 2))))
        self.assertEqual(cells, (0, 1, 2, 49, 50))
        writes, cells = self.run_rules((born, born))
        self.assertEqual(writes, ((1, thing(CRATE, 30, 16, house=1)), (49, (0, 1)), (50, (1,))))
        self.assertEqual(cells, (0, 1, 2, 49, 50))

    def test_a_birth_beyond_a_failed_one_takes_the_same_slot(self):
        rules = (("born", CRATE, n(0), n(0), n(0), n(0)), ("born", CRATE, n(10), n(0), n(0), n(0)),
                 ("born", CRATE, n(30), n(0), n(0), n(0)))
        writes, _ = self.run_rules(rules)
        self.assertEqual(writes, ((1, thing(CRATE, 30, 16, house=1)), (49, (0, 1)), (50, (1,))))

    def test_a_birth_on_the_place_of_its_maker(self):
        for kind, traits, many in ((CRATE, ("bars",), 0), (MIST, ("bars",), 1), (CRATE, ("falls",), 1)):
            writes, cells = self.run_rules((("born", kind, n(0), n(0), n(0), n(0)),), traits=traits)
            self.assertEqual(writes, ((1, thing(kind, 20, 16, house=1)), (49, (0, 1)))[:2 * many])
            self.assertEqual(cells, (0, 1, 49))

    def test_gone_behind_its_births(self):
        place = ("born", CRATE, n(0), n(0), n(0), n(0))
        writes, cells = self.run_rules((("gone",), place, ("own", 0, n(9))), cells=((16, (3,)), (17, ())))
        self.assertEqual((writes, cells), (((0, None), (16, ()), (49, ())), (0, 1, 16, 49)))
        beside = ("born", CRATE, n(0), n(8), n(1), n(1))
        writes, cells = self.run_rules((beside, ("gone",)))
        self.assertEqual(writes, ((0, None), (1, thing(CRATE, 20, 24, 1, 1, house=1)), (49, (1,))))
        self.assertEqual(cells, (0, 1, 16, 49))

    def test_gone_leaves_all_its_buckets(self):
        mine = thing(RULED, 28, 26)
        writes, cells = self.run_rules((("gone",),), thing(BIRD, 40, 8), mine=mine, rows=(".........",) * 6)
        self.assertEqual(writes, ((0, None), (49, ()), (50, (1,)), (52, ()), (53, ())))
        self.assertEqual(cells, (0, 16, 49, 50, 52, 53))

    def test_what_is_born_has_its_own_phase_0_still(self):
        rules = (("when", ("below", ("x",), n(40)), (("born", RULED, n(20), n(0), n(0), n(0)),), (("own", 0, n(77)),)),)
        game = game_of(rules)
        world = world_of(game, None, thing(RULED, 20, 0))
        for deed in all_deeds()[:16]:
            cells = list(world)
            for cell, value in done(game, (0, 0), deed, Looks(world)):
                cells[cell] = value
            world = tuple(cells)
        # The one that is born in slot 0 has had no turn, the next one has.
        self.assertEqual((world[0][7][0], world[2]), (1, None))
        world = world_of(game, thing(RULED, 20, 0))
        for deed in all_deeds()[:16]:
            cells = list(world)
            for cell, value in done(game, (0, 0), deed, Looks(world)):
                cells[cell] = value
            world = tuple(cells)
        self.assertEqual(world[1][7][0], 77)


class TestAcross(DeedCase):
    def across(self, *things, rows=ROWS, slot=0, cells=()):
        game = game_of(rows=rows)
        return self.deed(game, world_of(game, *things, cells=cells), (1, slot))

    def test_no_way(self):
        self.assertEqual(self.across(thing(CRATE, 20, 0), thing(CRATE, 28, 0)), ((), (0,)))

    def test_a_way_of_its_own(self):
        self.assertEqual(self.across(thing(CRATE, 0, 0, 7)), (((0, thing(CRATE, 7, 0, 7)),), (0, 49)))
        self.assertEqual(self.across(thing(CRATE, 20, 0, -3)), (((0, thing(CRATE, 17, 0, -3)),), (0, 49)))
        self.assertEqual(self.across(thing(MIST, 0, 0, 7)), (((0, thing(MIST, 7, 0, 7)),), (0,)))

    def test_it_stops_at_walls(self):
        self.assertEqual(self.across(thing(CRATE, 62, 0, 7)), (((0, thing(CRATE, 64, 0, 0)), (50, ())), (0, 50, 51)))
        self.assertEqual(self.across(thing(CRATE, 0, 0, -1, 3)), (((0, thing(CRATE, 0, 0, 0, 3)),), (0,)))
        self.assertEqual(self.across(thing(GHOST, 24, 32, 2)), (((0, thing(GHOST, 24, 32, 0)),), (0,)))
        self.assertEqual(self.across(thing(CRATE, 16, 8, 5)), (((0, thing(CRATE, 21, 8, 5)),), (0, 49)))

    def test_it_pushes_and_comes_into_other_blocks(self):
        writes, cells = self.across(thing(STONE, 20, 0, 3), thing(CRATE, 29, 4), thing(MIST, 0, 20), thing(BIRD, 60, 0))
        self.assertEqual(writes, ((0, thing(STONE, 23, 0, 3)), (1, thing(CRATE, 31, 4))))
        self.assertEqual(cells, (0, 1, 2, 3, 49, 50))
        writes, cells = self.across(thing(STONE, 20, 0, 2), thing(CRATE, 28, 0), rows=ROWS)
        self.assertEqual(writes, ((0, thing(STONE, 22, 0, 2)), (1, thing(CRATE, 30, 0))))
        writes, cells = self.across(thing(STONE, 24, 0, 2), thing(CRATE, 40, 0))
        self.assertEqual(writes, ((0, thing(STONE, 26, 0, 2)), (50, (0, 1))))
        self.assertEqual(cells, (0, 1, 49, 50))
        writes, cells = self.across(thing(MIST, 31, 0, 1), thing(CRATE, 24, 0))
        self.assertEqual(writes, ((0, thing(MIST, 32, 0, 1)), (49, (1,))))
        self.assertEqual(cells, (0, 49))

    def test_it_stops_where_its_lot_does_not_go_on(self):
        writes, cells = self.across(thing(STONE, 20, 0, 6), thing(CRATE, 30, 0), thing(BIRD, 40, 0))
        self.assertEqual(writes, ((0, thing(STONE, 24, 0, 0)), (1, thing(CRATE, 32, 0)), (49, (0,))))
        self.assertEqual(cells, (0, 1, 2, 49, 50))

    def test_belts_take_what_rests_on_the_floor(self):
        rows = ("....", "....", "....", ">#<=")
        for kind in (CRATE, MIST):
            for x, y, dx, rest, behind in (
                    (0, 16, 0, -1, (1, 0)), (3, 16, 0, -1, (4, 0)), (4, 16, 0, -1, (4, 0)), (12, 16, 0, -1, (11, 0)),
                    (11, 16, 0, -1, (11, 0)), (16, 16, 0, -1, (15, 0)), (20, 16, 0, -1, (20, 0)),
                    (0, 16, 7, -1, (8, 7)), (12, 16, -7, -1, (4, -7)), (0, 16, -1, -1, (0, -1)),
                    (0, 16, -2, -1, (0, 0)), (0, 16, 3, -1, (4, 3)), (12, 16, 1, -1, (12, 1)), (0, 16, 0, -2, (0, 0)),
                    (0, 16, 0, 5, (0, 0)), (0, 8, 0, -1, (0, 0))):
                game = game_of(rows=rows)
                world = world_of(game, thing(kind, x, y, dx, 0, rest))
                writes, _ = self.deed(game, world, (1, 0))
                mine = dict(writes).get(0, world[0])
                self.assertEqual((mine[2], mine[4]), behind, (x, y, dx, rest))

    def test_a_belt_against_a_wall(self):
        rows = ("....", "....", "#...", "<###")
        writes, cells = self.across(thing(CRATE, 8, 16, 0, 0, -1), rows=("....", "....", "#...", "#<##"))
        self.assertEqual((writes, cells), ((), (0,)))
        writes, cells = self.across(thing(CRATE, 8, 8, 3, 0, -1), rows=rows)
        self.assertEqual(writes, ((0, thing(CRATE, 11, 8, 3, 0, -1)),))

    def test_what_rests_on_it_is_carried(self):
        things = (thing(CART, 20, 24, 2), thing(STONE, 20, 16, rest=0), thing(GHOST, 24, 16, rest=0),
                  thing(CRATE, 28, 16, rest=-2), thing(MIST, 13, 16, rest=3))
        writes, cells = self.across(*things)
        self.assertEqual(writes, ((0, thing(CART, 22, 24, 2)), (1, thing(STONE, 22, 16, rest=0)),
                                  (2, thing(GHOST, 26, 16, rest=0)), (3, thing(CRATE, 30, 16)), (50, (2, 3))))
        self.assertEqual(cells, (0, 1, 2, 3, 4, 49, 50))

    def test_only_what_has_a_unit_right_above_is_carried(self):
        for x, y, went in ((20, 16, True), (13, 16, True), (12, 16, False), (27, 16, True), (28, 16, False),
                           (20, 15, False), (20, 17, True), (20, 23, True), (20, 24, False), (20, 25, False)):
            writes, _ = self.across(thing(CART, 20, 24, 1), thing(GHOST, x, y, rest=0))
            self.assertEqual(dict(writes).get(1), thing(GHOST, x + 1, y, rest=0) if went else None, (x, y))

    def test_carried_whether_it_can_or_not(self):
        writes, cells = self.across(thing(CART, 20, 24, 4), thing(STONE, 24, 16, rest=0), thing(BIRD, 34, 16))
        self.assertEqual(writes, ((0, thing(CART, 24, 24, 4)), (1, thing(STONE, 26, 16, rest=0)), (50, (1, 2))))
        self.assertEqual(cells, (0, 1, 2, 49, 50))

    def test_what_is_carried_pushes_and_carries_nothing_itself(self):
        things = (thing(CART, 20, 28, 1), thing(CART, 20, 20, rest=0), thing(STONE, 20, 12, rest=1),
                  thing(CRATE, 28, 20, rest=5))
        writes, _ = self.across(*things)
        self.assertEqual([told[2] for told in (dict(writes).get(slot, things[slot]) for slot in range(4))],
                         [21, 21, 20, 29])

    def test_what_is_carried_may_push_another_carried_one(self):
        things = (thing(CART, 40, 20, 1), thing(CRATE, 36, 12, rest=0), thing(CRATE, 44, 12, rest=0))
        writes, _ = self.across(*things)
        self.assertEqual(writes, ((0, thing(CART, 41, 20, 1)), (1, thing(CRATE, 37, 12, rest=0)),
                                  (2, thing(CRATE, 46, 12, rest=0))))

    def test_what_went_along_is_not_carried_besides(self):
        # The cart pushes the crate, which has a unit in the row above it and claims to rest on it.
        game = ((ROWS, (), 1, 1), kinds_with() [:7] + (("tall", 8, 16, ("bars", "pushed"), OWN, ()),))
        world = world_of(game, thing(CART, 20, 24, 1), thing(7, 28, 16, rest=0), thing(CRATE, 20, 16, rest=0))
        writes, _ = self.deed(game, world, (1, 0))
        self.assertEqual(dict(writes)[1], thing(7, 29, 16, rest=0))
        self.assertEqual(dict(writes)[2], thing(CRATE, 21, 16, rest=0))

    def test_the_row_above_is_looked_at_by_carriers_alone(self):
        for kind, cells in ((CART, (0, 1, 49, 52)), (CRATE, (0, 52))):
            rows = (".........",) * 6
            writes, looked = self.across(thing(kind, 8, 32, 1), thing(MIST, 20, 0), rows=rows)
            self.assertEqual((writes, looked), (((0, thing(kind, 9, 32, 1)),), cells))
        self.assertEqual(self.across(thing(CART, 8, 0, 1))[1], (0, 49))

    def test_a_carrier_that_does_not_go_looks_at_no_row(self):
        rows = (".........",) * 4 + ("#...#....", "#........")
        self.assertEqual(self.across(thing(CART, 8, 32, -1), thing(MIST, 20, 0), rows=rows),
                         (((0, thing(CART, 8, 32, 0)),), (0,)))


class TestDown(DeedCase):
    def down(self, *things, rows=ROWS, slot=0, pull=1):
        game = game_of(rows=rows, pull=pull)
        return self.deed(game, world_of(game, *things), (2, slot))

    def behind(self, told, *things, rows=ROWS, pull=1):
        return dict(self.down(told, *things, rows=rows, pull=pull)[0]).get(0, told)

    def test_what_falls_and_rests_not_gets_faster(self):
        for pull in range(4):
            for dy in (-7, -1, 0, 3, 5, 6, 7):
                told = self.behind(thing(CRATE, 60, 12, 0, dy), pull=pull)
                self.assertEqual(told[5], min(7, dy + pull))
                self.assertEqual(told[3], 12 + min(7, dy + pull))

    def test_what_rests_or_does_not_fall_gets_no_faster(self):
        self.assertEqual(self.behind(thing(CRATE, 60, 12, 0, 2, -1))[3:6], (14, 0, 2))
        self.assertEqual(self.behind(thing(CRATE, 60, 12, 0, 2, 9))[3:7], (14, 0, 2, -2))
        self.assertEqual(self.behind(thing(BIRD, 60, 12, 0, 2))[3:6], (14, 0, 2))
        self.assertEqual(self.behind(thing(MIST, 60, 12, 0, -3))[3:6], (9, 0, -3))
        self.assertEqual(self.down(thing(MIST, 60, 12)), ((), (0,)))

    def test_what_lands(self):
        self.assertEqual(self.behind(thing(CRATE, 32, 20, 1, 6)), thing(CRATE, 32, 24, 1, 0, -1))
        self.assertEqual(self.behind(thing(CRATE, 32, 20, 1, 3)), thing(CRATE, 32, 24, 1, 4, -1))
        self.assertEqual(self.behind(thing(GHOST, 16, 7, 0, 0)), thing(GHOST, 16, 8, 0, 1, -1))
        self.assertEqual(self.behind(thing(GHOST, 16, 7, 0, 1)), thing(GHOST, 16, 8, 0, 0, -1))
        self.assertEqual(self.behind(thing(GHOST, 16, 9, 0, 1)), thing(GHOST, 16, 11, 0, 2, -2))
        self.assertEqual(self.behind(thing(BIRD, 32, 24, 0, 5, -1)), thing(BIRD, 32, 24, 0, 0, -2))
        self.assertEqual(self.behind(thing(CRATE, 32, 24, 0, 0, -1)), thing(CRATE, 32, 24, 0, 0, -1))

    def test_what_lands_on_things(self):
        under = (thing(BIRD, 60, 30), thing(BIRD, 52, 30), thing(GHOST, 64, 28))
        self.assertEqual(self.behind(thing(CRATE, 60, 20, 0, 6), None, *under), thing(CRATE, 60, 22, 0, 0, 2))
        self.assertEqual(self.behind(thing(CRATE, 58, 20, 0, 1), None, *under), thing(CRATE, 58, 22, 0, 2, 2))
        self.assertEqual(self.behind(thing(GHOST, 60, 20, 0, 6), None, *under), thing(GHOST, 60, 27, 0, 7, -2))

    def test_what_bars_pushes_down_what_is_pushed(self):
        writes, _ = self.down(thing(STONE, 60, 0, 0, 2), thing(CRATE, 60, 8), thing(BIRD, 60, 18))
        self.assertEqual(writes, ((0, thing(STONE, 60, 2, 0, 0, 1)), (1, thing(CRATE, 60, 10))))
        # What comes to be wholly below the floor bars nothing, so it goes along no further.
        writes, _ = self.down(thing(STONE, 20, 36, 0, 6), thing(CRATE, 20, 44))
        self.assertEqual(writes, ((0, thing(STONE, 20, 43, 0, 7)), (1, thing(CRATE, 20, 48)), (52, (0,))))

    def test_up_what_falls_is_taken_along(self):
        writes, cells = self.down(thing(BIRD, 60, 16, 0, -3), thing(STONE, 60, 8), thing(GHOST, 60, 9))
        self.assertEqual(writes, ((0, thing(BIRD, 60, 13, 0, -3)), (1, thing(STONE, 60, 5))))
        self.assertEqual(cells, (0, 1, 2, 50, 51))
        self.assertEqual(self.behind(thing(BIRD, 60, 16, 0, -3), thing(BIRD, 60, 6)), thing(BIRD, 60, 14, 0, 0))
        self.assertEqual(self.behind(thing(BIRD, 60, 2, 0, -3)), thing(BIRD, 60, 0, 0, 0))

    def test_carriers_carry_down_but_not_up(self):
        writes, cells = self.down(thing(CART, 60, 16, 0, 2), thing(STONE, 60, 8, rest=0), thing(GHOST, 60, 9, rest=0))
        self.assertEqual(writes, ((0, thing(CART, 60, 18, 0, 2)), (1, thing(STONE, 60, 10, rest=0)),
                                  (2, thing(GHOST, 60, 11, rest=0))))
        self.assertEqual(cells, (0, 1, 2, 50, 51))
        writes, cells = self.down(thing(CART, 60, 16, 0, -2), thing(GHOST, 60, 8, rest=0))
        self.assertEqual(writes, ((0, thing(CART, 60, 14, 0, -2)),))
        self.assertEqual(cells, (0, 1, 50, 51))

    def test_a_carrier_that_goes_up_does_not_look_at_the_row_above_it(self):
        rows = (".........",) * 6
        self.assertEqual(self.down(thing(CART, 8, 34, 0, -1), thing(MIST, 20, 0), rows=rows),
                         (((0, thing(CART, 8, 33, 0, -1)),), (0, 52)))
        self.assertEqual(self.down(thing(CART, 8, 32, 0, 1), thing(MIST, 20, 0), rows=rows),
                         (((0, thing(CART, 8, 33, 0, 1)),), (0, 1, 49, 52)))

    def test_water(self):
        rows = (".........", "..ww.....") + (".........",) * 4
        for x, y, dx, dy, way in ((16, 4, 7, 7, (2, 2)), (12, 4, -7, -7, (-2, -2)), (16, 4, 2, 1, (2, 2)),
                                  (11, 4, 7, 6, (7, 7)), (16, 3, -7, 5, (-7, 6)), (16, 11, 3, 1, (2, 2)),
                                  (16, 12, 3, 1, (3, 2)), (16, 4, 0, 0, (0, 1))):
            told = self.behind(thing(CRATE, x, y, dx, dy), rows=rows)
            self.assertEqual((told[4:6], told[3]), (way, y + way[1]), (x, y, dx, dy))
        for kind in (MIST, BIRD):
            self.assertEqual(self.behind(thing(kind, 16, 4, -5, 6), rows=rows), thing(kind, 16, 6, -2, 2))
        self.assertEqual(self.behind(thing(CRATE, 16, 8, 5, 0, -1), rows=rows)[4:6], (2, 0))

    def test_a_thing_wholly_below_the_floor(self):
        for y in (48, 60):
            self.assertEqual(self.down(thing(CRATE, 20, y, 3, 3, 4), thing(CRATE, 20, 40)), ((), (0,)))
        writes, cells = self.down(thing(CRATE, 20, 47, 0, 3, 4))
        self.assertEqual(writes, ((0, thing(CRATE, 20, 50, 0, 3, -2)), (52, ())))
        self.assertEqual(cells, (0, 52))

    def test_looks_for_rest(self):
        self.assertEqual(self.down(thing(CRATE, 32, 24, 0, 0, -1), thing(MIST, 40, 0)), ((), (0,)))
        self.assertEqual(self.down(thing(CRATE, 60, 8, 0, 0, 7), thing(MIST, 40, 0)),
                         (((0, thing(CRATE, 60, 8)),), (0, 1, 50, 51)))
        self.assertEqual(self.down(thing(GHOST, 60, 8, 0, 0, 7), thing(MIST, 40, 0)),
                         (((0, thing(GHOST, 60, 8)),), (0,)))
        self.assertEqual(self.down(thing(BIRD, 60, 8, 0, 0, 7), thing(MIST, 40, 0)), (((0, thing(BIRD, 60, 8)),), (0,)))

    def test_at_most_eight_moves(self):
        rows = ("....",) * 3 + (">>>>",)
        game = game_of(rows=rows)
        world = world_of(game, thing(CRATE, 0, 16, 7, 0, -1))
        self.assertEqual(self.deed(game, world, (1, 0))[0][0][1][2], 8)
        self.assertEqual(self.behind(thing(CRATE, 60, 0, 0, 7), pull=3)[3], 7)


class TestMeetings(DeedCase):
    def meetings(self, *things, cells=(), slot=0):
        return self.deed(GAME, world_of(GAME, *things, cells=cells), (3, slot))

    def test_by_the_box_grown_by_one(self):
        for x, y, met in ((28, 8, True), (29, 8, False), (12, 8, True), (11, 8, False), (20, 16, True), (20, 17, False),
                          (20, 0, True), (28, 16, True), (29, 17, False), (12, 0, True), (20, 8, True)):
            for kind in (MIST, STONE):
                writes, _ = self.meetings(thing(CRATE, 20, 8), thing(kind, x, y))
                self.assertEqual(writes, ((16, (1,)),) if met else (), (x, y))

    def test_ascending_and_without_itself(self):
        writes, cells = self.meetings(thing(MIST, 40, 0), thing(MIST, 20, 8), thing(CRATE, 20, 9), None,
                                      thing(BIRD, 20, 17), slot=2)
        self.assertEqual(writes, ((18, (1, 4)),))
        self.assertEqual(cells, (1, 2, 4, 18, 49))

    def test_what_is_met_no_more_and_what_stays(self):
        self.assertEqual(self.meetings(thing(CRATE, 20, 8), thing(MIST, 40, 8), cells=((16, (1, 5)),)),
                         (((16, ()),), (0, 16, 49)))
        self.assertEqual(self.meetings(thing(CRATE, 20, 8), thing(MIST, 20, 8), cells=((16, (1,)),)),
                         ((), (0, 1, 16, 49)))

    def test_the_buckets_of_the_grown_box_are_looked_at(self):
        things = (thing(CRATE, 24, 16), thing(MIST, 60, 0), thing(MIST, 0, 40))
        self.assertEqual(self.meetings(*things), ((), (0, 1, 16, 49, 50)))
        things = (thing(CRATE, 23, 24), thing(MIST, 60, 0), thing(MIST, 0, 40))
        self.assertEqual(self.meetings(*things), ((), (0, 2, 16, 49, 52)))
        things = (thing(CRATE, 0, 0), thing(MIST, 60, 0), thing(MIST, 0, 40))
        self.assertEqual(self.meetings(*things), ((), (0, 16, 49)))

    def test_a_thing_wholly_below_the_floor(self):
        things = (thing(CRATE, 20, 48), thing(MIST, 20, 40), thing(MIST, 60, 40))
        self.assertEqual(self.meetings(*things), (((16, (1,)),), (0, 1, 16, 52)))
        self.assertEqual(self.meetings(*things, slot=1), ((), (1, 17, 49 + 3)))
        self.assertEqual(self.meetings(thing(CRATE, 20, 49), thing(MIST, 20, 40)), ((), (0, 16)))


class TestEnds(DeedCase):
    def test_frail_things_on_spikes(self):
        rows = ("....", "..^.", "....", "####")
        game = game_of(rows=rows)
        for x, y, out in ((16, 8, True), (9, 8, True), (8, 8, False), (23, 8, True), (24, 8, False), (16, 0, False),
                          (16, 1, True), (16, 15, True), (16, 16, False), (9, 1, True), (8, 0, False)):
            world = world_of(game, thing(MIST, 0, 0), thing(FRAIL, x, y), cells=((16, (1,)), (17, (0,))))
            writes, cells = self.deed(game, world, (4, 1))
            if out:
                self.assertEqual((writes, cells), (((1, None), (17, ()), (49, (0,))), (1, 17, 49)), (x, y))
            else:
                self.assertEqual((writes, cells), ((), (1,)), (x, y))

    def test_things_that_are_not_frail_stay(self):
        game = game_of(rows=("....", "..^.", "....", "####"))
        self.assertEqual(self.deed(game, world_of(game, thing(GHOST, 16, 8)), (4, 0)), ((), (0,)))

    def test_things_wholly_below_the_floor(self):
        for y, out in ((47, False), (48, True), (55, True)):
            for kind in (MIST, CRATE):
                world = world_of(GAME, thing(kind, 20, y), cells=((16, (3,)),))
                writes, cells = self.deed(GAME, world, (4, 0))
                self.assertEqual((writes, cells), (((0, None), (16, ())), (0, 16)) if out else ((), (0,)))

    def test_it_leaves_all_its_buckets_and_is_still_the_rest_of_another(self):
        rows = (".........",) * 3 + ("...^.....",) + (".........",) * 2
        game = game_of(rows=rows)
        world = world_of(game, thing(FRAIL, 28, 26), thing(BIRD, 28, 18, rest=0), cells=((17, (0,)),))
        writes, cells = self.deed(game, world, (4, 0))
        self.assertEqual(writes, ((0, None), (49, (1,)), (50, (1,)), (52, ()), (53, ())))
        self.assertEqual(cells, (0, 16, 49, 50, 52, 53))

    def test_what_fell_is_gone_at_the_end_of_the_tick(self):
        game = game_of()
        world = world_of(game, thing(CRATE, 20, 46, 0, 3))
        for deed in all_deeds():
            cells = list(world)
            for cell, value in done(game, (0, 0), deed, Looks(world)):
                cells[cell] = value
            world = tuple(cells)
        self.assertEqual(world, world_of(game))
        self.assertTrue(is_world(game, world))


class TestHears(unittest.TestCase):
    def test_the_house_of_a_thing_in_phase_0_alone(self):
        for house in (-1, 0, 1):
            told = thing(CRATE, 0, 0, house=house)
            for phase in range(5):
                for slot in (0, 15):
                    self.assertEqual(hears(GAME, (phase, slot), told), house if phase == 0 else -1)

    def test_no_thing(self):
        for phase in range(5):
            self.assertEqual(hears(GAME, (phase, 3), None), -1)


class TestErrors(unittest.TestCase):
    WRONG_GAME = game_of(pull=4)
    WRONG_DEEDS = ((5, 0), (-1, 0), (0, 16), (0, -1), (80, 80), (0, 0, 0), (0,), ())
    WRONG_PRESSES = ((), (0,), (0, 0, 0), (0, 64), (-1, 0))

    def test_a_game_that_is_none_comes_first(self):
        for deed in ((0, 0), (5, 0)):
            with self.assertRaises(InvalidGame) as caught:
                done(self.WRONG_GAME, (64,), deed, Looks(world_of(GAME)))
            self.assertEqual(caught.exception.value, self.WRONG_GAME)
            with self.assertRaises(InvalidGame) as caught:
                hears(self.WRONG_GAME, deed, None)
            self.assertEqual(caught.exception.value, self.WRONG_GAME)

    def test_then_presses_that_are_none(self):
        for presses in self.WRONG_PRESSES:
            for deed in ((0, 0), (5, 0)):
                looks = Looks(world_of(GAME, thing(CRATE, 0, 0)))
                with self.assertRaises(InvalidPress) as caught:
                    done(GAME, presses, deed, looks)
                self.assertEqual(caught.exception.value, presses)
                self.assertEqual(looks.seen(), ())
        for presses in ((0, 0), (63, 63)):
            self.assertEqual(done(GAME, presses, (0, 0), Looks(world_of(GAME))), ())

    def test_then_no_deed(self):
        for deed in self.WRONG_DEEDS:
            with self.assertRaises(InvalidPair) as caught:
                done(GAME, (0, 0), deed, Looks(world_of(GAME)))
            self.assertEqual(caught.exception.value, deed)
            with self.assertRaises(InvalidPair) as caught:
                hears(GAME, deed, None)
            self.assertEqual(caught.exception.value, deed)
