"""latepresses.looks."""

import random
import unittest

from cases import DEEDS, Case, changed, slow_notes
from samples import behind as written
from samples import crowded_game, first, played_game, random_game, random_presses, random_rows_of_presses

from latepresses.cells import Looks, first_world, with_thing
from latepresses.deeds import done
from latepresses.errors import InvalidGame, InvalidPair, InvalidPress, InvalidTrace, InvalidWorld
from latepresses.looks import behind, is_trace, noted, touches, trace, traced
from latepresses.ticks import last, run, tick

GAME = played_game(2)
WORLD = first_world(GAME, 5)
WRONG_GAME = (GAME[0], ())
WRONG_WORLD = changed(WORLD, 32, 65537)
ROWS = ((2, 16), (18, 4), (0, 32), (6, 1))
TRACE = trace(GAME, WORLD, ROWS)

# A floor of one block in which one thing of the house 1 and one of none stand in the air, 10 units apart.
DOT = ("dot", 4, 4, ("bars", "falls"), (1, 2, 3, 4), (("own", 0, ("sum", ("own", 0), ("held", 1))),))
AIR = ((("....",) * 4, ((0, 1, 4, 4), (0, -1, 18, 4)), 2, 1), (DOT,))
IN_AIR = first_world(AIR, 7)


def dot(house, x, y, dx=0, dy=0, rest=-2, own=(1, 2, 3, 4)):
    return (0, house, x, y, dx, dy, rest, own)


class TestNoted(Case):
    def test_an_empty_slot(self):
        for phase in range(5):
            self.assertEqual(noted(AIR, (63, 63), (phase, 9), IN_AIR), (-1, ((9, None),), ()))

    def test_phase_0_with_and_without_a_house(self):
        one, other = dot(1, 4, 4), dot(-1, 18, 4)
        self.assertEqual(noted(AIR, (0, 2), (0, 0), IN_AIR),
                         (1, ((0, one),), ((0, dot(1, 4, 4, own=(2, 2, 3, 4))),)))
        self.assertEqual(noted(AIR, (2, 0), (0, 0), IN_AIR), (1, ((0, one),), ()))
        self.assertEqual(noted(AIR, (2, 2), (0, 1), IN_AIR), (-1, ((1, other),), ()))

    def test_phases_1_and_2_hear_none(self):
        world = with_thing(AIR, IN_AIR, 0, dot(1, 4, 4, 2, 1))
        looked = ((0, dot(1, 4, 4, 2, 1)), (1, dot(-1, 18, 4)), (49, (0, 1)))
        self.assertEqual(noted(AIR, (2, 2), (1, 0), world), (-1, looked, ((0, dot(1, 6, 4, 2, 1)),)))
        self.assertEqual(noted(AIR, (2, 2), (2, 0), world), (-1, looked, ((0, dot(1, 4, 6, 2, 2)),)))
        self.assertEqual(noted(AIR, (2, 2), (1, 0), IN_AIR), (-1, ((0, dot(1, 4, 4)),), ()))

    def test_phase_3(self):
        world = with_thing(AIR, IN_AIR, 1, dot(-1, 8, 4))
        looked = ((0, dot(1, 4, 4)), (1, dot(-1, 8, 4)), (16, ()), (49, (0, 1)))
        self.assertEqual(noted(AIR, (0, 0), (3, 0), world), (-1, looked, ((16, (1,)),)))

    def test_phase_4(self):
        self.assertEqual(noted(AIR, (0, 0), (4, 0), IN_AIR), (-1, ((0, dot(1, 4, 4)),), ()))
        fallen = with_thing(AIR, IN_AIR, 0, dot(1, 4, 32))
        fallen = changed(fallen, 16, (1,))
        self.assertEqual(noted(AIR, (0, 0), (4, 0), fallen),
                         (-1, ((0, dot(1, 4, 32)), (16, (1,))), ((0, None), (16, ()))))

    def test_on_a_world_within_a_tick(self):
        """A thing may have gone below the floor, and its bucket is none then."""
        falling = with_thing(AIR, IN_AIR, 0, dot(1, 4, 27, 0, 7))
        _, looked, wrote = noted(AIR, (0, 0), (2, 0), falling)
        self.assertEqual(wrote, ((0, dot(1, 4, 34, 0, 7)), (49, (1,))))
        within = written(falling, wrote)
        self.assertEqual(noted(AIR, (0, 0), (2, 0), within), (-1, ((0, dot(1, 4, 34, 0, 7)),), ()))
        self.assertEqual(noted(AIR, (0, 0), (4, 0), within)[2], ((0, None),))

    def test_of_each_deed_by_the_other_engine(self):
        rng = random.Random(31)
        for game in (GAME, played_game(4), crowded_game(rng), random_game(rng), random_game(rng)):
            presses = random_presses(rng, game)
            world = tick(game, first(game), presses)
            _, notes = slow_notes(game, world, presses)
            for deed, note in zip(DEEDS, notes):
                self.assertEqual(noted(game, presses, deed, world), note, deed)
                self.assertEqual([cell for cell, _ in note[1]], sorted({cell for cell, _ in note[1]}))
                self.assertTrue(all(world[cell] == value for cell, value in note[1]))
                self.assertTrue({cell for cell, _ in note[2]} <= {cell for cell, _ in note[1]})
                self.assertTrue(all(world[cell] != value for cell, value in note[2]))
                world = written(world, note[2])

    def test_what_it_wrote_is_what_done_tells(self):
        world = WORLD
        for deed in DEEDS:
            looks = Looks(world)
            wrote = done(GAME, (18, 5), deed, looks)
            self.assertEqual(noted(GAME, (18, 5), deed, world)[1:], (looks.seen(), wrote))
            world = written(world, wrote)

    def test_on_two_worlds_alike_where_it_looked_it_is_one_note(self):
        rng = random.Random(33)
        for game in (GAME, crowded_game(rng), random_game(rng)):
            presses = random_presses(rng, game)
            world = tick(game, first(game), presses)
            for deed in DEEDS:
                note = noted(game, presses, deed, world)
                looked = {cell for cell, _ in note[1]}
                # Marks, the seed and met cells are free to differ; other slots may be gone where nothing met them.
                other = tuple(value if cell in looked or cell < 16 or cell > 48 else ((), 5)[cell > 31]
                              for cell, value in enumerate(world))
                self.assertEqual(noted(game, presses, deed, other), note)
                unseen = tuple(value if cell in looked else "unseen" for cell, value in enumerate(world))
                self.assertEqual(noted(game, presses, deed, unseen), note)
                heard = tuple(press if house == note[0] else 63 - press for house, press in enumerate(presses))
                self.assertEqual(noted(game, heard, deed, world), note)
                world = written(world, note[2])

    def test_by_name(self):
        self.assertEqual(noted(game=GAME, presses=(0, 1), deed=(0, 1), world=WORLD), noted(GAME, (0, 1), (0, 1), WORLD))

    def test_errors_in_their_order(self):
        self.raises(InvalidGame, WRONG_GAME, noted, WRONG_GAME, (64, 0), (5, 0), WORLD)
        for wrong in ((64, 0), (0, -1), (0,), (0, 0, 0)):
            self.raises(InvalidPress, wrong, noted, GAME, wrong, (5, 0), WORLD)
        for wrong in ((5, 0), (-1, 0), (0, 16), (0, -1), (0,), (0, 0, 0), ()):
            self.raises(InvalidPair, wrong, noted, GAME, (0, 0), wrong, WORLD)
        self.assertEqual(noted(GAME, (0, 0), (0, 9), WRONG_WORLD), (-1, ((9, None),), ()))


class TestTraced(Case):
    def test_the_world_behind_and_80_notes(self):
        rng = random.Random(34)
        for game in (GAME, played_game(3), crowded_game(rng), random_game(rng)):
            world, presses = first(game), random_presses(rng, game)
            self.assertEqual(traced(game, world, presses), slow_notes(game, world, presses))
            told, notes = traced(game, world, presses)
            self.assertEqual((told, len(notes)), (tick(game, world, presses), 80))

    def test_trace(self):
        self.assertEqual(trace(GAME, WORLD, ()), ())
        worlds = run(GAME, WORLD, ROWS)
        self.assertEqual(TRACE, tuple((presses, traced(GAME, world, presses)[1]) for presses,
                                      world in zip(ROWS, worlds)))

    def test_behind(self):
        for (_, notes), world, newer in zip(TRACE, run(GAME, WORLD, ROWS), run(GAME, WORLD, ROWS)[1:]):
            self.assertEqual(behind(world, notes), newer)
        self.assertEqual(behind(WORLD, ()), WORLD)
        self.assertEqual(behind((1, 2, 3), ((-1, (), ((0, 5), (2, 6))), (0, (), ((0, 7),)))), (7, 2, 6))

    def test_behind_a_cell_that_is_not_there(self):
        for wrong in (3, -1, 100):
            for notes in (((-1, (), ((wrong, 1),)),), ((-1, (), ()), (-1, (), ((0, 4), (wrong, 1)))),
                          ((-1, (), ((wrong, 1),)), (-1, (), ((3, 1),)))):
                self.raises(InvalidTrace, notes, behind, (1, 2, 3), notes)
        self.assertEqual(behind((1, 2, 3), ((-1, ((9, 9),), ((2, 0),)),)), (1, 2, 0))

    def test_touches(self):
        def note(looked, wrote):
            return (-1, tuple((cell, 0) for cell in looked), tuple((cell, 1) for cell in wrote))
        for looked, wrote, told in (((3,), (3,), True), ((3,), (4,), False), ((), (3,), False), ((3,), (), False),
                                    ((1, 2, 60), (5, 60), True), ((1, 2, 60), (5, 59, 61), False)):
            self.assertIs(touches(note((), wrote), note(looked, ())), told)
            self.assertIs(touches(one=note((1, 2, 3), wrote), other=note(looked, (3, 4, 60))), told)

    def test_touches_in_a_trace(self):
        """A deed that no earlier one touches is the same on the first world."""
        notes = TRACE[0][1]
        for index, (deed, other) in enumerate(zip(DEEDS, notes)):
            wrote = {cell for _, _, cells in notes[:index] for cell, _ in cells}
            self.assertEqual(any(touches(one, other) for one in notes[:index]), bool(wrote & {c for c, _ in other[1]}))
            if not any(touches(one, other) for one in notes[:index]):
                self.assertEqual(noted(GAME, ROWS[0], deed, WORLD), other)

    def test_by_name(self):
        self.assertEqual(traced(game=GAME, world=WORLD, presses=(0, 1)), traced(GAME, WORLD, (0, 1)))
        self.assertEqual(trace(game=GAME, world=WORLD, rows=ROWS), TRACE)
        self.assertEqual(behind(world=WORLD, notes=TRACE[0][1]), tick(GAME, WORLD, ROWS[0]))
        self.assertIs(is_trace(game=GAME, world=WORLD, told=TRACE), True)

    def test_errors_in_their_order(self):
        for call, wrong, told in ((traced, (64, 0), (64, 0)), (trace, (64, 0), ((64, 0),)),
                                  (trace, (0,), ((1, 1), (0,), (64, 0)))):
            self.raises(InvalidGame, WRONG_GAME, call, WRONG_GAME, WRONG_WORLD, told)
            self.raises(InvalidWorld, 32, call, GAME, WRONG_WORLD, told)
            self.raises(InvalidPress, wrong, call, GAME, WORLD, told)
        self.raises(InvalidGame, WRONG_GAME, is_trace, WRONG_GAME, WRONG_WORLD, ())
        self.raises(InvalidWorld, 32, is_trace, GAME, WRONG_WORLD, ())


class TestIsTrace(Case):
    def test_true_ones(self):
        rng = random.Random(35)
        self.assertIs(is_trace(GAME, WORLD, ()), True)
        for game in (GAME, crowded_game(rng), random_game(rng)):
            rows = random_rows_of_presses(rng, game, 3)
            self.assertIs(is_trace(game, first(game), trace(game, first(game), rows)), True)

    def test_from_another_world(self):
        self.assertIs(is_trace(GAME, last(GAME, WORLD, ROWS[:1]), TRACE), False)
        self.assertIs(is_trace(GAME, last(GAME, WORLD, ROWS[:1]), TRACE[1:]), True)
        self.assertIs(is_trace(GAME, first_world(GAME, 6), TRACE), False)

    def notes_changed(self, number, change):
        presses, notes = TRACE[number]
        return changed(TRACE, number, (presses, change(notes)))

    def test_one_thing_of_a_note_changed(self):
        rng = random.Random(36)
        for _ in range(60):
            number, index = rng.randrange(4), rng.randrange(80)
            heard, looked, wrote = TRACE[number][1][index]
            at = rng.randrange(len(looked))
            cell, value = looked[at]
            others = [(heard + 1, looked, wrote), (heard - 1, looked, wrote),
                      (heard, changed(looked, at, (cell + 1, value)), wrote),
                      (heard, changed(looked, at, (cell, "other")), wrote),
                      (heard, looked[:at] + looked[at + 1:], wrote), (heard, looked + ((70, ()),), wrote),
                      (heard, looked, wrote + ((70, ()),)), (heard, looked, wrote + ((cell, value),))]
            if len(looked) > 1:
                others.append((heard, looked[::-1], wrote))
            if wrote:
                others += [(heard, looked, wrote[1:]), (heard, looked, ((wrote[0][0] - 1, wrote[0][1]),) + wrote[1:]),
                           (heard, looked, ((wrote[0][0], 77),) + wrote[1:]), (heard, looked, wrote[:-1])]
            for other in others:
                told = self.notes_changed(number, lambda notes: changed(notes, index, other))
                self.assertIs(is_trace(GAME, WORLD, told), False, (number, index, other))

    def test_notes_exchanged_left_out_and_put_twice(self):
        for number in range(4):
            for index in (0, 6, 40, 78):
                for change in (lambda n: n[:index] + (n[index + 1], n[index]) + n[index + 2:],
                               lambda n: n[:index] + n[index + 1:], lambda n: n[:index + 1] + n[index:],
                               lambda n: n[:79], lambda n: n + n[-1:], lambda n: ()):
                    self.assertIs(is_trace(GAME, WORLD, self.notes_changed(number, change)), False)

    def test_ticks_left_out_put_twice_and_exchanged(self):
        for number in range(4):
            if number < 3:
                self.assertIs(is_trace(GAME, WORLD, TRACE[:number] + TRACE[number + 1:]), False)
                self.assertIs(is_trace(GAME, WORLD, changed(changed(TRACE, number, TRACE[number + 1]), number + 1,
                                                            TRACE[number])), False)
            self.assertIs(is_trace(GAME, WORLD, TRACE[:number + 1] + TRACE[number:]), False)
            self.assertIs(is_trace(GAME, WORLD, TRACE[:number]), True)

    def test_other_presses(self):
        for number in range(4):
            presses, notes = TRACE[number]
            for wrong in (changed(presses, 0, presses[0] ^ 2), (64, 0), (0,), (0, 0, 0), (), (-1, 0)):
                self.assertIs(is_trace(GAME, WORLD, changed(TRACE, number, (wrong, notes))), False)

    def test_presses_without_effect_are_a_trace_too(self):
        presses, notes = TRACE[0]
        self.assertIs(is_trace(GAME, WORLD, (((presses[0] ^ 8, presses[1]), notes),)), True)


if __name__ == "__main__":
    unittest.main()
