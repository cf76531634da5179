"""The forms of expressions and scripts in latepresses.scripts."""

import random
import unittest

from samples import PAIRS, random_script

from latepresses.errors import InvalidScript
from latepresses.scripts import depth_of, is_expression, is_script, number_of, plain_run, size_of, wants

ONE = ("number", 1)
READS = ((0, -1, 0, 0, 0, 0, -2, (0, 0, 0, 0)), 0, (None,) * 16, None, (), ".", ".")


def nested(deep):
    """An expression so deep, that has as many tuples."""
    told = ONE
    for _ in range(deep - 1):
        told = ("not", told)
    return told


def whens(deep, innermost):
    """A script of one "when" within the other, so many of them, and deeds within the last."""
    for _ in range(deep):
        innermost = (("when", ONE, innermost, ()),)
    return innermost


class TestExpressions(unittest.TestCase):
    def test_numbers_at_the_ends_of_their_ranges(self):
        for make, low, high in (
                (lambda n: ("number", n), -9999, 9999), (lambda n: ("own", n), 0, 3), (lambda n: ("mark", n), 0, 15),
                (lambda n: ("held", n), 0, 5), (lambda n: ("met", n), 0, 7), (lambda n: ("met own", n, 0), 0, 7),
                (lambda n: ("met own", 0, n), 0, 3), (lambda n: ("drawn", n), 1, 99)):
            self.assertIs(is_expression(make(low)), True)
            self.assertIs(is_expression(make(high)), True)
            self.assertIs(is_expression(make(low - 1)), False)
            self.assertIs(is_expression(make(high + 1)), False)
            self.assertIs(is_expression(make("1")), False)
            self.assertIs(is_expression(make(ONE)), False)

    def test_expressions_of_a_name_alone(self):
        for name in ("x", "y", "dx", "dy", "rests"):
            self.assertIs(is_expression((name,)), True)
            self.assertIs(is_expression((name, 1)), False)
            self.assertIs(is_expression((name, ONE)), False)

    def test_signs(self):
        for name in ("here", "under"):
            for sign in ".#=<>^wg":
                self.assertIs(is_expression((name, sign)), True)
            for sign in ("", "x", ".#", "W", 0, ONE):
                self.assertIs(is_expression((name, sign)), False)
            self.assertIs(is_expression((name,)), False)

    def test_expressions_of_two_sides(self):
        for name in PAIRS:
            self.assertIs(is_expression((name, ONE, ("x",))), True)
            for wrong in ((name,), (name, ONE), (name, ONE, ONE, ONE), (name, 1, ONE), (name, ONE, 1),
                          (name, ONE, ("gone",)), (name, ("nought",), ONE)):
                self.assertIs(is_expression(wrong), False)

    def test_expressions_of_one_and_of_three_parts(self):
        self.assertIs(is_expression(("not", ONE)), True)
        self.assertIs(is_expression(("not",)), False)
        self.assertIs(is_expression(("not", ONE, ONE)), False)
        self.assertIs(is_expression(("pick", ONE, ONE, ONE)), True)
        self.assertIs(is_expression(("pick", ONE, ONE)), False)
        self.assertIs(is_expression(("pick", ONE, ONE, ONE, ONE)), False)
        self.assertIs(is_expression(("pick", ONE, ONE, ("drawn", 0))), False)

    def test_wrong_names_and_things_that_are_no_expressions(self):
        for wrong in ((), ("numbers", 1), ("Number", 1), ("go", ONE, ONE), ("gone",), ("own", 0, ONE), (1, 2),
                      (ONE,), ("number",), ("number", 1, 1), ("met own", 0), ("when", ONE, (), ())):
            self.assertIs(is_expression(wrong), False, wrong)

    def test_an_expression_has_no_bound(self):
        told = ONE
        for _ in range(99):
            told = ("sum", told, ("number", 2))
        self.assertIs(is_expression(told=told), True)
        self.assertEqual(number_of(told, READS), (199, None))
        self.assertIs(is_expression(nested(100)), True)
        self.assertEqual(number_of(nested(100), READS), (0, None))
        wide = ONE
        for _ in range(8):
            wide = ("sum", wide, wide)
        self.assertEqual(number_of(wide, READS), (256, None))


class TestScripts(unittest.TestCase):
    def test_deeds_at_the_ends_of_their_ranges(self):
        for make, low, high in ((lambda n: (("own", n, ONE),), 0, 3), (lambda n: (("mark", n, ONE),), 0, 15),
                                (lambda n: (("born", n, ONE, ONE, ONE, ONE),), 0, 7)):
            self.assertIs(is_script(make(low)), True)
            self.assertIs(is_script(make(high)), True)
            self.assertIs(is_script(make(low - 1)), False)
            self.assertIs(is_script(make(high + 1)), False)

    def test_right_scripts(self):
        for right in ((), (("gone",),), (("go", ONE, ONE), ("go", ("x",), ("y",))), (("when", ONE, (), ()),),
                      (("when", ONE, (("gone",),), (("when", ("rests",), (), (("gone",),)),)),)):
            self.assertIs(is_script(right), True, right)

    def test_wrong_scripts(self):
        for wrong in (("gone",), ((),), (("gone", 1),), (("go", ONE),), (("go", ONE, ONE, ONE),), (("go", 1, 2),),
                      (("own", 0),), (("own", 0, 1),), (("mark", ONE, 0),), (("born", 0, ONE, ONE, ONE),),
                      (("born", 0, ONE, ONE, ONE, ONE, ONE),), (("when", ONE, ()),), (("when", ONE, (), (), ()),),
                      (("when", 1, (), ()),), (("when", ONE, ("gone",), ()),), (("when", ONE, (), (ONE,)),),
                      (("when", ONE, (), "gone"),), (ONE,), (("run",),), (1,), ("",), (("gone",), ("go",)),
                      (("own", 0, ("own", 4)),), (("own", 0, ("own", 0, ONE)),)):
            self.assertIs(is_script(wrong), False, wrong)

    def test_size_at_the_edge(self):
        for many in (1, 29, 30):
            script = (("own", 0, ONE),) * many
            self.assertIs(is_script(script), True)
            self.assertEqual(size_of(script), 2 * many)
        self.assertIs(is_script((("own", 0, ONE),) * 30 + (("gone",),)), False)
        self.assertEqual(size_of((("own", 0, ONE),) * 29 + (("gone",),) * 2), 60)
        self.assertIs(is_script((("gone",),) * 60), True)
        self.assertIs(is_script((("gone",),) * 61), False)
        self.assertIs(is_script(whens(1, (("gone",),) * 58)), True)
        self.assertIs(is_script(whens(1, (("gone",),) * 59)), False)

    def test_depth_at_the_edge(self):
        for deep in (1, 2, 7):
            self.assertEqual(depth_of((("own", 0, nested(deep)),)), deep + 1)
        self.assertIs(is_script((("own", 0, nested(7)),)), True)
        self.assertIs(is_script((("own", 0, nested(8)),)), False)
        self.assertIs(is_script((("own", 0, nested(99)),)), False)
        self.assertEqual(depth_of(whens(6, ())), 7)
        self.assertEqual(depth_of(whens(7, ())), 8)
        self.assertEqual(depth_of(whens(7, (("gone",),))), 8)
        self.assertIs(is_script(whens(8, ())), False)
        self.assertIs(is_script(whens(7, (("own", 0, ONE),))), False)
        self.assertIs(is_script((("gone",), ("when", nested(7), (), ()))), True)
        self.assertIs(is_script((("gone",), ("when", nested(8), (), ()))), False)

    def test_size_and_depth(self):
        self.assertEqual((size_of(()), depth_of(())), (0, 0))
        self.assertEqual((size_of((("gone",),)), depth_of((("gone",),))), (1, 1))
        script = (("when", ("both", ONE, ("not", ONE)), (("go", ONE, ONE),), (("gone",), ("gone",))), ("gone",))
        self.assertEqual((size_of(script), depth_of(script)), (11, 4))
        born = (("born", 1, ONE, ("sum", ONE, ONE), ONE, ONE),)
        self.assertEqual((size_of(script=born), depth_of(script=born)), (7, 3))

    def test_wants(self):
        self.assertEqual(wants(()), ((), False, False))
        self.assertEqual(wants((("go", ("mark", 7), ("mark", 2)), ("mark", 11, ("mark", 2)))),
                         ((2, 7, 11), False, False))
        self.assertEqual(wants((("own", 0, ("drawn", 9)),)), ((), True, False))
        self.assertEqual(wants((("own", 0, ("met", 0)),)), ((), False, True))
        self.assertEqual(wants((("own", 0, ("met own", 0, 1)),)), ((), False, True))
        unreached = (("when", ("number", 0), (("mark", 3, ONE),), (("own", 1, ("pick", ONE, ONE, ("drawn", 5))),)),)
        self.assertEqual(wants(script=unreached), ((3,), True, False))
        self.assertEqual(wants((("born", 1, ONE, ("mark", 15), ("sum", ONE, ("met", 1)), ("mark", 0)),)),
                         ((0, 15), False, True))
        self.assertEqual(wants((("own", 2, ("number", 3)),)), ((), False, False))

    def test_wants_bools_and_tuples(self):
        marks, seed, met = wants((("mark", 3, ("met", 1)),))
        self.assertEqual((type(marks), seed is False, met is True), (tuple, True, True))

    def test_random_scripts_are_scripts(self):
        rng = random.Random(4)
        for _ in range(200):
            script = random_script(rng, 8)
            self.assertIs(is_script(script), True)
            self.assertLessEqual(size_of(script), 60)
            self.assertLessEqual(depth_of(script), 8)
            self.assertIs(is_script(script + (("gone", 1),)), False)


class TestScriptErrors(unittest.TestCase):
    def test_each_function_of_a_script_names_what_is_none(self):
        wrong_scripts = ((("go", ONE),), ("gone",), (("gone",),) * 61, whens(8, ()), (("own", 0, ("drawn", 0)),))
        for wrong in wrong_scripts:
            for call in (size_of, depth_of, wants, lambda script: plain_run(script, READS)):
                with self.assertRaises(InvalidScript) as caught:
                    call(wrong)
                self.assertEqual(caught.exception.value, wrong)

    def test_number_of_names_what_is_no_expression(self):
        for wrong in ((), ("number", 10000), ("go", ONE, ONE), ("sum", ONE, ("own", 4)), (ONE,)):
            with self.assertRaises(InvalidScript) as caught:
                number_of(wrong, READS)
            self.assertEqual(caught.exception.value, wrong)
