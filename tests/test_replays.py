"""latepresses.replays."""

import random
import unittest

from cases import Case, changed
from samples import first, played_game, random_rows_of_presses

from latepresses.errors import (InvalidGame, InvalidHouse, InvalidNumber, InvalidPair, InvalidPress, InvalidTick,
                                InvalidWorld)
from latepresses.replays import Replay, packed, unpacked
from latepresses.ticks import last, run

GAME = played_game(2)
WORLD = first(GAME)
ROWS = ((2, 1), (6, 5), (18, 2), (0, 33), (33, 4))
WORLDS = run(GAME, WORLD, ROWS)


def told(replay):
    """All that a replay tells of itself."""
    return (replay.game, replay.world, replay.rows, len(replay), [replay.sought(at) for at in range(len(replay) + 1)])


class TestReplay(Case):
    def setUp(self):
        self.replay = Replay(GAME, WORLD, ROWS)

    def tearDown(self):
        # Whatever was asked of it, it never changes.
        self.assertEqual(told(self.replay), (GAME, WORLD, ROWS, 5, WORLDS))

    def test_properties(self):
        for rows in (ROWS, (), ROWS[:1]):
            replay = Replay(game=GAME, world=WORLD, rows=rows)
            self.assertEqual((replay.game, replay.world, replay.rows, len(replay)), (GAME, WORLD, rows, len(rows)))

    def test_it_is_not_compared(self):
        self.assertNotEqual(self.replay, Replay(GAME, WORLD, ROWS))
        self.assertNotIn("__eq__", vars(Replay))

    def test_errors_of_run(self):
        wrong = changed(WORLD, 32, -1)
        self.raises(InvalidGame, 5, Replay, 5, wrong, ((64,),))
        self.raises(InvalidWorld, 32, Replay, GAME, wrong, ((64,),))
        self.raises(InvalidPress, (64, 0), Replay, GAME, WORLD, ((1, 1), (64, 0), (1,)))
        self.raises(InvalidPress, (1,), Replay, GAME, WORLD, ((1, 1), (1,)))

    def test_sought(self):
        for tick in range(6):
            self.assertEqual(self.replay.sought(tick), last(GAME, WORLD, ROWS[:tick]))
        self.assertEqual(self.replay.sought(tick=5), WORLDS[5])
        self.assertEqual(Replay(GAME, WORLD, ()).sought(0), WORLD)
        for tick in (-1, -5, 6, 7, 90):
            self.raises(InvalidTick, tick, self.replay.sought, tick)
        self.raises(InvalidTick, 1, Replay(GAME, WORLD, ()).sought, 1)

    def test_cut(self):
        for begin in range(6):
            for end in range(begin, 6):
                cut = self.replay.cut(begin, end)
                self.assertEqual(told(cut), (GAME, WORLDS[begin], ROWS[begin:end], end - begin, WORLDS[begin:end + 1]))
        self.assertEqual(self.replay.cut(begin=1, end=2).rows, ROWS[1:2])

    def test_cut_errors_in_their_order(self):
        for begin in (-1, -9, 6, 30):
            for end in (-1, 0, 3, 6):
                self.raises(InvalidTick, begin, self.replay.cut, begin, end)
        for begin in range(6):
            for end in (-2, -1, *range(begin), 6, 7, 30):
                self.raises(InvalidTick, end, self.replay.cut, begin, end)

    def test_joined(self):
        for at in range(6):
            joined = self.replay.cut(0, at).joined(self.replay.cut(at, 5))
            self.assertEqual(told(joined), told(self.replay))
        more = Replay(GAME, WORLDS[5], ((7, 7),))
        self.assertEqual(self.replay.joined(other=more).rows, ROWS + ((7, 7),))
        self.assertEqual(told(more), (GAME, WORLDS[5], ((7, 7),), 1, run(GAME, WORLDS[5], ((7, 7),))))
        alone = Replay(GAME, WORLD, ())
        self.assertEqual((alone.joined(alone).rows, alone.joined(self.replay).rows), ((), ROWS))

    def test_joined_of_what_does_not_fit(self):
        other = Replay(GAME, changed(WORLDS[5], 40, 7), ((7, 7),))
        self.raises(InvalidPair, (5, 40), self.replay.joined, other)
        other = Replay(GAME, changed(changed(WORLDS[5], 40, 7), 32, 0), ())
        self.raises(InvalidPair, (5, 32), self.replay.joined, other)
        self.raises(InvalidPair, (2, 40), self.replay.cut(0, 2).joined, Replay(GAME, changed(WORLDS[2], 40, 7), ()))
        # Another game is told whatever the worlds are, be they alike or of another size.
        level, kinds = GAME
        heavier = ((*level[:3], 2), kinds)
        self.raises(InvalidPair, (5, -1), self.replay.joined, Replay(heavier, WORLDS[5], ()))
        small = played_game(1)
        self.raises(InvalidPair, (5, -1), self.replay.joined, Replay(small, first(small), ()))
        rows = tuple(row + "...." for row in level[0])
        wide = ((rows + rows, *level[1:]), kinds)
        self.raises(InvalidPair, (5, -1), self.replay.joined, Replay(wide, first(wide), ()))

    def test_pressed(self):
        for tick in range(5):
            for house in range(2):
                for press in (0, 63, ROWS[tick][house]):
                    other = self.replay.pressed(tick, house, press)
                    rows = changed(ROWS, tick, changed(ROWS[tick], house, press))
                    self.assertEqual(told(other), (GAME, WORLD, rows, 5, run(GAME, WORLD, rows)))
        self.assertEqual(self.replay.pressed(tick=0, house=1, press=9).rows[0], (2, 9))

    def test_pressed_errors_in_their_order(self):
        for tick in (-1, -9, 5, 6, 70):
            self.raises(InvalidTick, tick, self.replay.pressed, tick, 2, 64)
        self.raises(InvalidTick, 0, Replay(GAME, WORLD, ()).pressed, 0, 0, 0)
        for house in (-1, -2, 2, 3):
            self.raises(InvalidHouse, house, self.replay.pressed, 4, house, 64)
        for press in (-1, 64, 100):
            self.raises(InvalidPress, press, self.replay.pressed, 4, 1, press)

    def test_first_parted(self):
        for tick in range(5):
            rows = changed(ROWS, tick, (32, 32))
            other = Replay(GAME, WORLD, rows)
            self.assertEqual(self.replay.first_parted(other), tick + 1)
            self.assertEqual(other.first_parted(other=self.replay), tick + 1)
        self.assertEqual(self.replay.first_parted(Replay(GAME, changed(WORLD, 33, 5), ROWS)), 0)
        self.assertIsNone(self.replay.first_parted(self.replay))
        self.assertIsNone(self.replay.first_parted(Replay(GAME, WORLD, ROWS)))

    def test_first_parted_of_unlike_lengths(self):
        for end in range(6):
            cut = self.replay.cut(0, end)
            self.assertIsNone(self.replay.first_parted(cut))
            self.assertIsNone(cut.first_parted(self.replay))
        other = Replay(GAME, WORLD, ROWS[:2] + ((32, 32),))
        self.assertEqual((self.replay.first_parted(other), other.first_parted(self.replay)), (3, 3))
        self.assertIsNone(other.first_parted(self.replay.cut(0, 2)))
        self.assertEqual(Replay(GAME, changed(WORLD, 33, 5), ()).first_parted(self.replay), 0)

    def test_first_parted_of_another_game(self):
        small = played_game(1)
        self.assertEqual(self.replay.first_parted(Replay(small, first(small), ())), 0)

    def test_what_a_replay_is_sought_at_is_what_it_is_played_to(self):
        rng = random.Random(161)
        for _ in range(8):
            rows = random_rows_of_presses(rng, GAME, 12)
            replay = Replay(GAME, WORLD, rows)
            self.assertEqual([replay.sought(tick) for tick in range(13)], run(GAME, WORLD, rows))
            one, other = sorted((rng.randrange(13), rng.randrange(13)))
            again = replay.cut(0, one).joined(replay.cut(one, other)).joined(replay.cut(other, 12))
            self.assertEqual(told(again), told(replay))


class TestPacked(Case):
    def test_by_hand(self):
        for rows, pack in (((), ()), (((1,),), ((1, (1,)),)), (((1,), (1,)), ((2, (1,)),)),
                           (((1,), (2,), (2,), (1,)), ((1, (1,)), (2, (2,)), (1, (1,)))),
                           (((0, 1),) * 120, ((120, (0, 1)),))):
            self.assertEqual(packed(rows), pack)
            self.assertEqual(unpacked(pack), rows)
        self.assertEqual((packed(rows=((5,),)), unpacked(told=((2, (5,)),))), (((1, (5,)),), ((5,), (5,))))

    def test_to_and_fro(self):
        rng = random.Random(162)
        for _ in range(100):
            rows = tuple((rng.randrange(2), rng.randrange(2)) for _ in range(rng.randrange(30)))
            pack = packed(rows)
            self.assertEqual(unpacked(pack), rows)
            for one, other in zip(pack, pack[1:]):
                self.assertNotEqual(one[1], other[1])

    def test_what_is_not_packed_tightly(self):
        self.assertEqual(unpacked(((1, (5,)), (2, (5,)))), ((5,),) * 3)

    def test_many_below_1(self):
        for many in (0, -1, -50):
            self.raises(InvalidNumber, many, unpacked, ((2, (5,)), (many, (5,)), (-9, (5,))))


if __name__ == "__main__":
    unittest.main()
