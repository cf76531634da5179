"""The whole program: games from texts that are played by orders, and what holds of all drawn games."""

import random
import unittest
from itertools import product

from cases import Case
from samples import (crowded_game, first, played_game, random_game, random_presses, random_reads,
                     random_rows_of_presses, random_script)
from slow_houses import SlowPlay, random_choice

from latepresses.boxes import squares
from latepresses.cells import first_world, is_world, unlike
from latepresses.compiler import compiled, run as run_code_of, run_code, shorter
from latepresses.consoles import Console
from latepresses.houses import House
from latepresses.judge import agrees, first_wrong, takes
from latepresses.kept import best_plan, total, world_at, worlds_kept
from latepresses.looks import trace
from latepresses.outcomes import filled, hangs_on, islands, outcomes
from latepresses.papers import is_paper, paper_of
from latepresses.plays import Play
from latepresses.presses import guessed_rows
from latepresses.readers import read_game, read_letter, read_paper, read_rows, read_script, read_world
from latepresses.redone import redone
from latepresses.replays import Replay, packed, unpacked
from latepresses.scripts import plain_run
from latepresses.sums import chained, parted
from latepresses.texts import show_game, show_letter, show_paper, show_rows, show_script, show_world
from latepresses.ticks import last, run, tick

TEXT = """houses 2 pull 1
|..........
|...==.....
|.w.....g..
|.w..^.....
|####<>####
start 0 0 20 24
start 0 1 64 24
start 1 -1 52 24
kind hero 6 8 bars,falls,frail 0 0 0 0
  go (less (times (held 1) 3) (times (held 0) 3)) (pick (both (held 2) (rests)) -5 (dy))
  when (both (held 4) (below (own 0) 2))
    own 0 = (sum (own 0) 1)
    born 2 at 7 1 by 5 -1
  end
  when (here g)
    mark 0 = (sum (mark 0) 1)
  else
    mark 1 = (drawn 10)
  end
end
kind crate 8 8 bars,falls,pushed 0 0 0 0
end
kind shot 2 2 - 0 0 0 0
  own 0 = (sum (own 0) 1)
  when (below 6 (own 0))
    gone
  end
end"""


def games(rng, many):
    """Some drawn games, with first worlds."""
    for number in range(many):
        game = (random_game, crowded_game, lambda _: played_game(1 + number % 4))[number % 3](rng)
        yield game, first_world(game, rng.randrange(65537))


class TestPlayed(Case):
    def test_a_game_from_a_text_by_orders_to_its_end(self):
        rng = random.Random(181)
        console = Console()
        self.assertEqual(console.order("game duo\n" + TEXT), "done")
        self.assertEqual(console.order("play one duo 77 2 1 1 6"), "done")
        game = read_game(TEXT)
        slow = SlowPlay(game, first_world(game, 77), 2, 1, 1, 6)
        for _ in range(300):
            choice = random_choice(rng, 3, len(slow.bag))
            answer = console.order(" ".join((choice[0], "one", *[str(part) for part in choice[1:]])))
            self.assertEqual(answer, ("nothing", "done")[slow.choose(choice)])
        for h in range(2):
            console.order(f"leave one {h}")
        # To the end: all hear all, until nobody is behind.
        end = max(console.house("one", h).now for h in range(3))
        while int(console.order("sure one")) < end:
            for h in range(3):
                console.order(f"send one {h}")
            while console.order("bring one 0") == "done":
                pass
            for h in range(3):
                if console.house("one", h).now < end:
                    console.order(f"go one {h} 0")
        self.assertGreater(end, 10)
        rows = tuple(tuple(house.guess(house.who, at) for house in slow.houses[:2]) for at in range(end))
        world = last(game, first_world(game, 77), rows)
        self.assertEqual([console.order(f"house one {h}") for h in range(3)], [show_world(world)] * 3)
        self.assertEqual((console.order("judge one 1"), console.order("judge one 4")), ("yes", "yes"))
        self.assertEqual(console.order("replay film one"), "done")
        self.assertEqual(console.order(f"seek film {end}"), show_world(world))
        console.order("replay other one")
        console.order(f"press other {end - 1} 0 {63 - rows[-1][0]}")
        self.assertIn(console.order("parted film other"), (str(end), "none"))
        calls = len(console)
        for _ in range(calls):
            console.order("undo")
        self.assertEqual((console.order("names"), len(console)), ("none", 0))

    def test_a_paper_from_a_text_is_judged(self):
        game = read_game(TEXT)
        rng = random.Random(182)
        play = Play(game, first_world(game, 5), 2, 0, 0, 9)
        play.choose_all([("go", h, rng.randrange(64)) for _ in range(9) for h in range(2)])
        play.choose_all(play.going_on())
        paper = read_paper(game, show_paper(paper_of(play, 3)))
        self.assertEqual((paper, len(paper[1])), (paper_of(play, 3), 9))
        self.assertIs(takes(game, paper), True)
        for h in range(2):
            self.assertIsNone(agrees(game, paper, play.house(h)))
        text = show_paper(paper)
        spoilt = text[:-1] + ("1" if text[-1] != "1" else "2")
        self.assertEqual(first_wrong(game, read_paper(game, spoilt)), 9)
        spoilt = text.replace("\nseed 5\n", "\nseed 6\n")
        self.assertEqual(first_wrong(game, read_paper(game, spoilt)), 0)

    def test_all_texts_to_and_fro(self):
        rng = random.Random(183)
        for game, world in games(rng, 9):
            world = last(game, world, random_rows_of_presses(rng, game, 3))
            rows = random_rows_of_presses(rng, game, 4)
            self.assertEqual(read_game(show_game(game)), game)
            self.assertEqual(read_world(game, show_world(world)), world)
            self.assertEqual(read_rows(show_rows(rows)), rows)
            self.assertEqual(unpacked(packed(rows)), rows)
            for kind in game[1]:
                self.assertEqual(read_script(show_script(kind[5])), kind[5])
            many = game[0][2]
            for h in range(many):
                house = House(game, world, many, 1, h, 2, 20)
                for press in range(5):
                    house.go(press)
                for _, letter in house.letters():
                    self.assertEqual(read_letter(show_letter(letter)), letter)


class TestGuarantees(Case):
    def test_right_for_ever(self):
        rng = random.Random(184)
        for game, world in games(rng, 9):
            for told in run(game, world, random_rows_of_presses(rng, game, 10)):
                self.assertIs(is_world(game, told), True)

    def test_redone(self):
        rng = random.Random(185)
        for game, world in games(rng, 6):
            rows = random_rows_of_presses(rng, game, 5)
            others = tuple(presses if rng.random() < 0.7 else random_presses(rng, game) for presses in rows)
            old = trace(game, world, rows)
            newer, again = redone(game, world, old, others)
            self.assertEqual(newer, trace(game, world, others))
            one = other = world
            for number in range(5):
                for index in range(80):
                    heard, looked, wrote = old[number][1][index]
                    otherwise = heard >= 0 and rows[number][heard] != others[number][heard]
                    otherwise = otherwise or any(other[cell] != value for cell, value in looked)
                    self.assertIs((number, index) in again, otherwise)
                    one, other = list(one), list(other)
                    for cell, value in wrote:
                        one[cell] = value
                    for cell, value in newer[number][1][index][2]:
                        other[cell] = value

    def test_outcomes(self):
        rng = random.Random(186)
        for game, world in games(rng, 6):
            rows = [list(presses) for presses in random_rows_of_presses(rng, game, 3)]
            for _ in range(3):
                rows[rng.randrange(3)][rng.randrange(game[0][2])] = None
            rows = tuple(tuple(presses) for presses in rows)
            many = sum(presses.count(None) for presses in rows)
            menu = (0, 2, 20)
            ends = {told: last(game, world, filled(rows, told)) for told in product(menu, repeat=many)}
            for cell in sorted({cell for end in ends.values() for cell in unlike(world, end)})[:6] + [33]:
                values = []
                for end in ends.values():
                    values += [] if end[cell] in values else [end[cell]]
                self.assertEqual(outcomes(game, world, rows, menu, cell), values)
                self.assertIs(hangs_on(game, world, rows, menu, cell) == (), len(values) == 1)

    def test_kept(self):
        rng = random.Random(187)
        for game, world in games(rng, 6):
            rows = random_rows_of_presses(rng, game, 7)
            plan = best_plan(tuple(rng.randrange(9) for _ in range(8)), 3)
            kept = worlds_kept(game, world, rows, plan)
            self.assertEqual([world_at(game, kept, rows, at) for at in range(8)], run(game, world, rows))
            weights = tuple(rng.randrange(9) for _ in range(7))
            least = total(best_plan(weights, 3), weights)
            for one in range(1, 7):
                for other in range(one + 1, 7):
                    self.assertLessEqual(least, total((0, one, other), weights))

    def test_parted(self):
        rng = random.Random(188)
        found = 0
        for game, world in games(rng, 9):
            one = tuple(run(game, world, random_rows_of_presses(rng, game, 7)))
            other = tuple(run(game, world, random_rows_of_presses(rng, game, 7)))
            told = parted(one, other)
            if told is None:
                self.assertEqual(one, other)
                continue
            at, cell, asked = told
            found += 1
            self.assertNotEqual(one[at][cell], other[at][cell])
            self.assertEqual(one[:at], other[:at])
            self.assertLessEqual(asked, 3 + len(world).bit_length())
        self.assertGreater(found, 4)

    def test_scripts(self):
        rng = random.Random(189)
        for _ in range(200):
            script, reads = random_script(rng, 4), random_reads(rng)
            told = plain_run(script, reads)
            self.assertEqual(run_code_of(script, reads), told)
            for code in (compiled(script), shorter(compiled(script))):
                result, many = run_code(code, reads)
                self.assertEqual(result, told)
                self.assertLessEqual(many, len(code))

    def test_houses_and_going_on_and_played_again(self):
        rng = random.Random(190)
        for game, world in games(rng, 9):
            many, watchers = game[0][2], rng.randrange(3)
            play = Play(game, world, many, watchers, rng.choice((0, 2)), rng.choice((1, 6, 20)))
            for _ in range(150):
                play.choose(random_choice(rng, many + watchers, len(play.bag)))
            end = max(play.house(h).now for h in range(many + watchers))
            for h in range(many + watchers):
                house = play.house(h)
                self.assertEqual(house.sure_world, play.plain_world(house.sure))
                self.assertEqual(house.world, last(game, world, guessed_rows(house.knowns, house.now)))
            choices = play.going_on()
            self.assertLessEqual(len(choices), play.bound())
            play.choose_all(choices)
            self.assertEqual(play.sure_all(), end)
            paper = paper_of(play, 2)
            self.assertTrue(is_paper(paper) and takes(game, paper))
            for h in range(many + watchers):
                self.assertEqual(play.house(h).sure_world, play.plain_world(end))
                self.assertIsNone(agrees(game, paper, play.house(h)))
            replay = Replay(game, paper[0], paper[1])
            self.assertEqual([replay.sought(at) for at in range(end + 1)], run(game, world, paper[1]))
            self.assertIsNone(first_wrong(game, (paper[0], paper[1], ())))


class TestReturned(Case):
    def spoil(self, told):
        """Changes a list at every depth."""
        for part in told:
            if isinstance(part, list):
                self.spoil(part)
        told.append("spoilt")
        told[0] = "spoilt"

    def test_changing_a_returned_list_changes_nothing_that_is_told_later(self):
        game = played_game(2)
        world = first(game)
        rows = ((2, 1), (6, None), (None, 33))
        house = House(game, world, 2, 0, 0, 0, 9)
        house.go(5)
        console = Console()
        console.keep_game("g", game)
        console.keep_game("h", game)
        for call, told in ((squares, ((0, 0, 9, 9), 8)), (run, (game, world, ((1, 2), (3, 4)))),
                           (chained, ((world, world),)), (outcomes, (game, world, rows, (0, 2), 0)),
                           (islands, (game, world, rows, (0, 2))), (house.worlds, ()), (console.names, ())):
            found = call(*told)
            kept = repr(found)
            self.spoil(found)
            self.assertEqual(repr(call(*told)), kept)
        self.assertEqual(house.world, tick(game, world, (5, 0)))

    def test_what_is_kept_of_a_game_does_not_change(self):
        game = played_game(2)
        console = Console()
        console.keep_game("g", game)
        console.keep_play("p", "g", 7, 2, 0, 0, 5)
        self.spoil(console.house("p", 0).worlds())
        self.assertEqual(console.house("p", 0).worlds(), [first(game)])


if __name__ == "__main__":
    unittest.main()
