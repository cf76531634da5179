"""What holds everywhere: the names of the interface, and values that stay as they are."""

import copy
import inspect
import random
import unittest
from importlib import import_module

from samples import crowded_game, random_presses, random_script

INTERFACE = {
    "boxes": {"meet": "one other", "grown": "box by", "moved": "box dx dy", "squares": "box size",
              "gap": "one other dx dy", "around": "boxes"},
    "levels": {"is_level": "told", "is_kind": "told", "is_game": "told", "sign_at": "level x y",
               "is_free": "level box", "lands": "level box", "floor_size": "level", "blocks": "level"},
    "things": {"is_thing": "game told", "box_of": "game thing", "has": "game thing trait",
               "born": "game kind house x y dx dy", "middle": "game thing", "under": "game thing"},
    "cells": {"cells_of": "game", "first_world": "game seed", "is_world": "game told", "wrong_cell": "game told",
              "kind_of_cell": "game cell", "bucket_cells": "game box", "with_thing": "game world slot thing",
              "unlike": "one other"},
    "floor": {"meeting": "game looks box but", "lot": "game looks slot dx dy", "stands_on": "game looks slot",
              "moved_lot": "game world slots dx dy"},
    "deeds": {"all_deeds": "", "done": "game presses deed looks", "hears": "game deed thing"},
    "ticks": {"tick": "game world presses", "run": "game world rows", "last": "game world rows",
              "settled": "game world most"},
    "looks": {"noted": "game presses deed world", "traced": "game world presses", "trace": "game world rows",
              "behind": "world notes", "touches": "one other", "is_trace": "game world told"},
    "redone": {"redone": "game world old rows", "reached": "game world old rows", "dies": "game world old rows",
               "touched_by": "game world old tick house press"},
    "outcomes": {"open_places": "rows", "filled": "rows presses", "outcomes": "game world rows menu cell",
                 "hangs_on": "game world rows menu cell", "is_sure": "game world rows menu cell",
                 "parting": "game world rows menu cell", "islands": "game world rows menu"},
    "kept": {"cost": "plan tick", "total": "plan weights", "best_plan": "weights room", "best_worst": "many room",
             "worlds_kept": "game world rows plan", "world_at": "game kept rows tick"},
    "sums": {"thing_sum": "value", "stretch_sum": "world first last", "chained": "worlds", "parted": "one other"},
    "compiler": {"compiled": "script", "run": "script reads", "run_code": "code reads", "shorter": "code",
                 "script_of": "code"},
    "presses": {"is_known": "told", "known_to": "known", "is_known_at": "known tick", "guess_at": "known tick",
                "learned": "known first row ends", "guesses": "knowns tick", "guessed_rows": "knowns end",
                "sure_to": "knowns", "first_unlike": "elder newer begin end"},
    "letters": {"is_letter": "told", "letter": "house known first heard", "put": "bag to letter", "taken": "bag k",
                "doubled": "bag k", "size_in_bits": "letter"},
    "papers": {"paper_of": "play every", "is_paper": "told"},
    "judge": {"first_wrong": "game paper", "takes": "game paper", "agrees": "game paper house"},
    "replays": {"packed": "rows", "unpacked": "told"},
    "texts": {"show_expression": "expression", "show_script": "script", "show_rows": "rows", "show_world": "world",
              "show_game": "game", "show_letter": "letter", "show_paper": "paper"},
    "readers": {"read_script": "text", "read_rows": "text", "read_game": "text", "read_letter": "text",
                "read_world": "game text", "read_paper": "game text"},
    "scripts": {"is_expression": "told", "is_script": "told", "size_of": "script", "depth_of": "script",
                "number_of": "expression reads", "plain_run": "script reads", "wants": "script"},
}

# Each class with the arguments of its objects, those of its methods, and its properties.
CLASSES = {
    "cells.Looks": ("world", {"at": "cell", "seen": ""}, ""),
    "houses.House": ("game world many watchers who delay lead",
                     {"must_wait": "", "go": "press", "hear": "letter", "letters": "", "leave": "", "fall": "",
                      "worlds": "", "twin": ""}, "now world sure sure_world knowns lags"),
    "plays.Play": ("game world many watchers delay lead",
                   {"house": "h", "choose": "choice", "choose_all": "choices", "plain_world": "tick", "sure_all": "",
                    "going_on": "", "twin": "", "bound": ""}, "bag made"),
    "replays.Replay": ("game world rows",
                       {"__len__": "", "sought": "tick", "cut": "begin end", "joined": "other",
                        "pressed": "tick house press", "first_parted": "other"}, "game world rows"),
    "consoles.Console": ("", {
        "__len__": "", "names": "", "keep_game": "name game",
        "keep_play": "name game_name seed many watchers delay lead", "choose": "name choice",
        "keep_replay": "name play_name", "other_press": "name tick house press", "cut_to": "name begin end",
        "drop": "name", "undo": "", "house": "name h", "sure_of": "name", "sought": "name tick", "parted": "one other",
        "judged": "name every", "order": "text"}, ""),
}

# What tells lists.
LISTS = ("boxes.squares", "ticks.run", "outcomes.outcomes", "outcomes.islands", "sums.chained")


def module(name):
    return import_module("latepresses." + name)


def is_plain(value):
    """True if it is an integer, a text, a bool, None, or a tuple of such all the way down."""
    if type(value) is tuple:
        return all(is_plain(part) for part in value)
    return value is None or type(value) in (int, str, bool)


class TestInterface(unittest.TestCase):
    def test_functions_are_defined_in_their_files_with_their_arguments(self):
        for file, functions in INTERFACE.items():
            for name, arguments in functions.items():
                function = getattr(module(file), name)
                self.assertTrue(inspect.isfunction(function), name)
                self.assertEqual(function.__module__, "latepresses." + file)
                self.assertEqual(list(inspect.signature(function).parameters), arguments.split(), name)

    def test_methods_are_defined_in_their_classes(self):
        for place, (arguments, methods, properties) in CLASSES.items():
            file, name = place.split(".")
            told = getattr(module(file), name)
            self.assertEqual((inspect.isclass(told), told.__module__), (True, "latepresses." + file))
            for method, wanted in (("__init__", arguments), *methods.items()):
                self.assertTrue(inspect.isfunction(vars(told)[method]), method)
                self.assertEqual(list(inspect.signature(vars(told)[method]).parameters), ["self", *wanted.split()])
            for attribute in properties.split():
                self.assertIsInstance(vars(told)[attribute], property)
                self.assertIsNone(vars(told)[attribute].fset)


class TestValues(unittest.TestCase):
    def setUp(self):
        rng = random.Random(20)
        self.game = crowded_game(rng)
        self.world = module("cells").first_world(self.game, 7)
        self.presses = random_presses(rng, self.game)
        self.script = random_script(rng, 4)
        thing = self.world[0]
        self.reads = (thing, 0, (0,) * 16, 7, ((1, 0, -1, (1, 2, 3, 4)),), ".", "#")
        self.looks = module("cells").Looks
        box = module("things").box_of(self.game, thing)
        level = self.game[0]
        self.values = {
            "one": box, "other": box, "box": box, "by": 1, "dx": 1, "dy": 0, "size": 8, "boxes": [box, (0, 0, 1, 1)],
            "told": self.game, "level": level, "x": 3, "y": 4, "game": self.game, "thing": thing, "trait": "bars",
            "kind": 0, "house": -1, "seed": 7, "cell": 3, "world": self.world, "slot": 0, "slots": (0,), "but": (),
            "presses": self.presses, "deed": (0, 0), "script": self.script, "reads": self.reads,
            "expression": ("sum", ("x",), ("drawn", 9)), "most": 2, "menu": (0, 2, 63), "tick": 1, "house": 0,
            "press": 5, "rows": (self.presses, (0,)), "plan": (0, 2), "weights": (1, 2, 3), "room": 2, "many": 7,
            "kept": ((0, self.world), (2, self.world)), "value": self.world, "first": 1, "last": 4,
            "worlds": (self.world, self.world), "code": module("compiler").compiled(self.script),
            "known": (((0, 5), (3, 6)), None), "row": (6, 7), "ends": 9, "begin": 0, "end": 8,
            "knowns": ((((0, 5), (3, 6)), None), ((), 4)), "elder": (((), None),), "newer": ((((3, 6),), None),),
            "letter": (1, 4, (1, 0), None, (4, 2)), "bag": ((0, (1, 4, (1, 0), None, (4, 2))), (1, (0, 0, (), 0, ()))),
            "to": 2, "k": 1, "heard": (2, 3), "every": 2,
            "play": module("plays").Play(self.game, self.world, 1, 1, 3, 4)}
        self.values["play"].choose_all((("go", 0, 5), ("go", 1, 6)))
        paper = (self.world, ((5,), (6,)), ((0, 7), (2, 8)))
        show = module("texts")
        trace = module("looks").trace(self.game, self.world, self.values["rows"])
        notes = trace[0][1]
        self.values |= {"old": trace, "notes": notes}
        untold = ((None,), (None,))
        self.values["paper"] = paper
        texts = {"script": show.show_script(self.script), "rows": "1,2 ?,3", "game": show.show_game(self.game),
                 "letter": "0 4 - 1,0 4,2", "world": show.show_world(self.world), "paper": show.show_paper(paper)}
        self.others = {"judge.agrees": {"house": self.values["play"].house(0)},
                       "replays.unpacked": {"told": ((2, (5,)), (1, (6,)))},
                       "looks.touches": {"one": notes[0], "other": notes[16]}, "looks.is_trace": {"told": trace},
                       "outcomes.open_places": {"rows": untold}, "outcomes.filled": {"rows": untold, "presses": (1, 2)},
                       "outcomes.outcomes": {"rows": untold}, "outcomes.hangs_on": {"rows": untold},
                       "outcomes.is_sure": {"rows": untold}, "outcomes.parting": {"rows": untold},
                       **{f"readers.read_{name}": {"text": text} for name, text in texts.items()},
                       "letters.is_letter": {"told": self.values["letter"]},
                       "papers.is_paper": {"told": (self.world, ((0,),), ((0, 5), (1, 6)))},
                       "outcomes.islands": {"rows": untold}, "presses.is_known": {"told": self.values["known"]},
                       "sums.parted": {"one": (self.world,), "other": (self.world[:-1] + (5,),)}}

    def calls(self):
        for file, functions in INTERFACE.items():
            for name, arguments in functions.items():
                told = self.values | {"looks": self.looks(self.world)} | self.others.get(f"{file}.{name}", {})
                values = [told[argument] for argument in arguments.split()]
                yield f"{file}.{name}", getattr(module(file), name), arguments.split(), values

    def test_what_is_handed_in_stays_as_it_is(self):
        for name, function, _, values in self.calls():
            kept = copy.deepcopy([value for value in values if is_plain(value) or type(value) is list])
            function(*values)
            self.assertEqual([value for value in values if is_plain(value) or type(value) is list], kept, name)

    def test_by_position_and_by_name(self):
        for name, function, arguments, values in self.calls():
            self.assertEqual(function(*values), function(**dict(zip(arguments, values))), name)

    def test_tuples_all_the_way_down(self):
        for name, function, _, values in self.calls():
            if name not in LISTS:
                self.assertTrue(is_plain(function(*values)), name)

    def test_lists_are_new_and_hold_tuples(self):
        for name, function, _, values in self.calls():
            if name in LISTS:
                one, other = function(*values), function(*values)
                self.assertEqual((type(one), one is other), (list, False), name)
                for part, second in zip(one, other):
                    if name == "outcomes.islands":
                        self.assertEqual((type(part), part is second), (list, False))
                    self.assertTrue(is_plain(tuple(part) if name == "outcomes.islands" else part), name)

    def test_truths_are_bools(self):
        for name, function, _, values in self.calls():
            if ".is_" in name or name in ("boxes.meet", "things.has", "levels.lands", "looks.touches", "judge.takes"):
                self.assertIs(type(function(*values)), bool, name)

    def test_twice_the_same(self):
        for name, function, _, values in self.calls():
            if not any(isinstance(value, self.looks) for value in values):
                self.assertEqual(function(*values), function(*values), name)

    def test_what_looks_tell_may_be_kept(self):
        looks = self.looks(self.world)
        looks.at(3)
        kept = looks.seen()
        looks.at(0)
        self.assertEqual((kept, is_plain(looks.seen())), (((3, self.world[3]),), True))
