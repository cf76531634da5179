"""latepresses.kept."""

import random
import time
import unittest
from itertools import combinations

from cases import Case, changed
from samples import first, played_game, random_game, random_rows_of_presses

from latepresses.cells import first_world
from latepresses.errors import InvalidGame, InvalidNumber, InvalidPlan, InvalidPress, InvalidWorld
from latepresses.kept import best_plan, best_worst, cost, total, world_at, worlds_kept
from latepresses.ticks import run

GAME = played_game(2)
WORLD = first_world(GAME, 5)
WRONG_GAME = (GAME[0], ())
WRONG_WORLD = changed(WORLD, 32, 65537)
WRONG_PLANS = ((), (1,), (-1, 0), (0, 0), (0, 3, 3), (0, 3, 2), (0, 2, 4, 1), (0, -1))


def counted(plan, tick):
    """The cost of a tick, step by step."""
    many = 0
    while tick not in plan:
        tick -= 1
        many += 1
    return many


def all_plans(many, room):
    for kept in range(room):
        for ticks in combinations(range(1, many), kept):
            yield (0, *ticks)


class TestCosts(Case):
    def test_cost_by_counting(self):
        for plan in ((0,), (0, 1), (0, 4), (0, 3, 4, 9)):
            for tick in range(15):
                self.assertEqual(cost(plan, tick), counted(plan, tick), (plan, tick))
        self.assertEqual(cost(plan=(0, 4), tick=400), 396)

    def test_total_by_counting(self):
        rng = random.Random(61)
        for _ in range(50):
            weights = tuple(rng.choice((0, 1, 5, 10 ** 9)) for _ in range(rng.randint(1, 12)))
            plan = rng.choice(list(all_plans(14, 3)))
            due = sum(weight * counted(plan, tick) for tick, weight in enumerate(weights))
            self.assertEqual(total(plan, weights), due)
        self.assertEqual(total(plan=(0, 4), weights=(1,) * 6), 7)
        self.assertEqual(total((0,), (7,)), 0)
        self.assertEqual(total((0, 9), (0, 0, 3)), 6)

    def test_errors(self):
        for wrong in WRONG_PLANS:
            self.raises(InvalidPlan, wrong, cost, wrong, -1)
            self.raises(InvalidPlan, wrong, total, wrong, (-1,))
        for wrong in (-1, -9):
            self.raises(InvalidNumber, wrong, cost, (0, 2), wrong)
            self.raises(InvalidNumber, wrong, total, (0, 2), (0, wrong, -3))


class TestBestPlan(Case):
    def test_against_all_plans(self):
        rng = random.Random(62)
        for _ in range(150):
            many, room = rng.randint(1, 9), rng.randint(1, 11)
            some = rng.choice(((0, 1), (0, 3, 9), (1,), (0, 10 ** 9, 10 ** 9 - 1), range(20)))
            weights = tuple(rng.choice(some) for _ in range(many))
            due = min((total(plan, weights), plan) for plan in all_plans(many, room))
            self.assertEqual(best_plan(weights, room), due[1], (weights, room))

    def test_ties(self):
        self.assertEqual(best_plan((1, 1, 1), 2), (0, 1))
        self.assertEqual(best_plan((1, 1, 1, 1), 2), (0, 2))
        self.assertEqual(best_plan((0, 0, 0, 0), 3), (0,))
        self.assertEqual(best_plan((0, 0, 5, 0, 0), 2), (0, 2))
        self.assertEqual(best_plan((0, 0, 5, 0, 0), 4), (0, 1, 2))
        self.assertEqual(best_plan((0, 0, 5, 0, 5), 2), (0, 2))
        self.assertEqual(best_plan((0, 1, 1, 0), 3), (0, 1, 2))

    def test_room_of_one_and_above_the_number_of_ticks(self):
        self.assertEqual(best_plan((5, 4, 3, 2), 1), (0,))
        for room in (4, 5, 40, 10 ** 9):
            self.assertEqual(best_plan((5, 4, 3, 2), room), (0, 1, 2, 3))
        self.assertEqual(best_plan((5,), 12), (0,))
        self.assertEqual(best_plan(weights=(1,) * 6, room=2), (0, 3))

    def test_60_ticks_and_12_kept_worlds_in_good_time(self):
        rng = random.Random(63)
        begin = time.process_time()
        for weights in ((1,) * 60, (0,) * 60, (10 ** 9,) * 60, tuple(rng.randint(0, 10 ** 9) for _ in range(60))):
            plan = best_plan(weights, 12)
            self.assertLessEqual(len(plan), 12)
            for _ in range(100):
                other = (0, *sorted(rng.sample(range(1, 60), 11)))
                self.assertLessEqual(total(plan, weights), total(other, weights))
        self.assertEqual(best_plan((1,) * 60, 12), tuple(range(0, 60, 5)))
        self.assertLess(time.process_time() - begin, 5)

    def test_errors_in_their_order(self):
        for room in (0, -1):
            self.raises(InvalidNumber, room, best_plan, (1, -5, -6), room)
        self.raises(InvalidNumber, -5, best_plan, (1, -5, -6), 1)
        self.raises(InvalidNumber, -10 ** 9, best_plan, (0, 0, -10 ** 9), 3)


class TestBestWorst(Case):
    def test_against_all_plans(self):
        for many in range(1, 11):
            for room in range(1, 13):
                due = min((max(counted(plan, tick) for tick in range(many)), plan) for plan in all_plans(many, room))
                self.assertEqual(best_worst(many, room), due, (many, room))

    def test_some(self):
        self.assertEqual(best_worst(many=7, room=2), (3, (0, 3)))
        self.assertEqual(best_worst(1, 1), (0, (0,)))
        self.assertEqual(best_worst(60, 1), (59, (0,)))
        self.assertEqual(best_worst(60, 12), (4, tuple(range(0, 60, 5))))
        self.assertEqual(best_worst(6, 4), (1, (0, 1, 2, 4)))
        self.assertEqual(best_worst(3, 100), (0, (0, 1, 2)))
        self.assertEqual(best_worst(59, 12), (4, (0, *range(4, 59, 5))))

    def test_errors_in_their_order(self):
        for room in (0, -1):
            self.raises(InvalidNumber, room, best_worst, 5, room)
            self.raises(InvalidNumber, room, best_worst, -7, room)
        for many in (0, -7):
            self.raises(InvalidNumber, many, best_worst, many, 1)


class TestWorlds(Case):
    def test_they_lead_to_the_worlds_of_the_plain_run(self):
        rng = random.Random(64)
        for game in (GAME, random_game(rng)):
            world, rows = first(game), random_rows_of_presses(rng, game, 9)
            worlds = run(game, world, rows)
            for plan in ((0,), (0, 9), (0, 1, 2), (0, 4, 7, 9), tuple(range(10))):
                kept = worlds_kept(game, world, rows, plan)
                self.assertEqual(kept, tuple((tick, worlds[tick]) for tick in plan))
                for tick in range(10):
                    self.assertEqual(world_at(game, kept, rows, tick), worlds[tick])

    def test_no_rows(self):
        self.assertEqual(worlds_kept(GAME, WORLD, (), (0,)), ((0, WORLD),))
        self.assertEqual(world_at(GAME, ((0, WORLD),), (), 0), WORLD)

    def test_by_name(self):
        rows = ((1, 2), (3, 4))
        kept = worlds_kept(game=GAME, world=WORLD, rows=rows, plan=(0, 1))
        self.assertEqual(kept, worlds_kept(GAME, WORLD, rows, (0, 1)))
        self.assertEqual(world_at(game=GAME, kept=kept, rows=rows, tick=2), run(GAME, WORLD, rows)[2])

    def test_it_is_run_from_the_newest_kept_world(self):
        """Other worlds than those of the run show from which one it goes."""
        rows = ((1, 2), (3, 4), (5, 6))
        others = tuple((tick, first_world(GAME, 10 + tick)) for tick in (0, 2))
        for tick, begin in ((0, 0), (1, 0), (2, 2), (3, 2)):
            due = run(GAME, first_world(GAME, 10 + begin), rows[begin:tick])[-1]
            self.assertEqual(world_at(GAME, others, rows, tick), due)

    def test_errors_of_worlds_kept_in_their_order(self):
        rows = ((1, 2), (64, 0))
        for wrong in (*WRONG_PLANS, (0, 3), (0, 1, 2, 9)):
            self.raises(InvalidPlan, wrong, worlds_kept, WRONG_GAME, WRONG_WORLD, rows, wrong)
        self.raises(InvalidPlan, (0, 1), worlds_kept, GAME, WORLD, (), (0, 1))
        self.raises(InvalidGame, WRONG_GAME, worlds_kept, WRONG_GAME, WRONG_WORLD, rows, (0,))
        self.raises(InvalidWorld, 32, worlds_kept, GAME, WRONG_WORLD, rows, (0,))
        self.raises(InvalidPress, (64, 0), worlds_kept, GAME, WORLD, rows, (0, 1))

    def test_errors_of_world_at_in_their_order(self):
        rows = ((1, 2), (64, 0))
        for wrong in WRONG_PLANS:
            self.raises(InvalidPlan, wrong, world_at, WRONG_GAME, tuple((t, WRONG_WORLD) for t in wrong), rows, -1)
        for wrong in (-1, 3, 60):
            self.raises(InvalidNumber, wrong, world_at, WRONG_GAME, ((0, WRONG_WORLD),), rows, wrong)
        self.raises(InvalidGame, WRONG_GAME, world_at, WRONG_GAME, ((0, WRONG_WORLD),), rows, 2)
        self.raises(InvalidWorld, 32, world_at, GAME, ((0, WORLD), (1, WRONG_WORLD)), rows, 1)
        self.raises(InvalidPress, (64, 0), world_at, GAME, ((0, WORLD),), rows, 2)

    def test_worlds_from_which_it_is_not_run_are_not_looked_at(self):
        rows = ((1, 2), (3, 4))
        kept = ((0, WRONG_WORLD), (1, WORLD), (2, WRONG_WORLD))
        self.assertEqual(world_at(GAME, kept, rows, 1), WORLD)
        self.raises(InvalidWorld, 32, world_at, GAME, kept, rows, 0)
        self.assertEqual(world_at(GAME, ((0, WORLD), (9, WRONG_WORLD)), rows, 2), run(GAME, WORLD, rows)[2])


if __name__ == "__main__":
    unittest.main()
