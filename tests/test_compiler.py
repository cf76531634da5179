"""latepresses.compiler."""

import random
import unittest

from cases import Case
from samples import BUBBLE_RULES, CART_RULES, SHOT_RULES, hero_rules, n, random_deeds, random_reads, random_script
from slow_code import has_fitting_ways, slow_run_code, slow_shorter

from latepresses.compiler import compiled, run, run_code, script_of, shorter
from latepresses.errors import InvalidCode, InvalidScript
from latepresses.scripts import is_script, plain_run

READS = ((0, 1, 30, 40, 3, -4, -1, (10, 20, 30, 40)), 5, tuple(range(100, 116)), 7,
         ((2, 1, 0, (5, 6, 7, 8)), (4, 0, -1, (1, 2, 3, 4))), ".", "#")
PAIRS = ("sum", "less", "times", "part", "rest", "least", "most", "same", "below", "both", "either")
LEAVES = (("own", 0), ("own", 3), ("mark", 0), ("mark", 15), ("x",), ("y",), ("dx",), ("dy",), ("rests",), ("held", 5),
          ("met", 7), ("met own", 1, 3), ("here", "w"), ("under", "<"), ("drawn", 99))
WRONG_SCRIPTS = ((("own", 4, n(1)),), (("go", n(1)),), (("no",),), (n(1),), (("own", 0, n(10000)),), (("gone",),) * 61)


def push(number):
    return ("push", number)


def own_of(expression):
    return (("own", 2, expression),)


def small_codes(rng, many):
    """Right codes of few kinds of things, with leaps to and fro."""
    while many:
        code = tuple(rng.choice((push(0), push(0), push(1), push(-3), ("read", ("own", 0)), ("read", ("drawn", 3)),
                                 ("do", "sum"), ("do", "not"), ("do", "less"), ("own", 0), ("mark", 3), ("gone",),
                                 ("over", rng.randrange(5)), ("nought", rng.randrange(5)),
                                 ("nought", rng.randrange(3))))
                     for _ in range(rng.randint(1, 11)))
        if has_fitting_ways(code):
            many -= 1
            yield code


class TestCompiled(Case):
    def test_numbers_and_readings(self):
        self.assertEqual(compiled(()), ())
        for number in (0, -9999, 9999):
            self.assertEqual(compiled(own_of(n(number))), (push(number), ("own", 2)))
        for leaf in LEAVES:
            self.assertEqual(compiled(own_of(leaf)), (("read", leaf), ("own", 2)))

    def test_what_is_reckoned(self):
        for name in PAIRS:
            self.assertEqual(compiled(own_of((name, ("x",), n(3)))),
                             (("read", ("x",)), push(3), ("do", name), ("own", 2)))
        self.assertEqual(compiled(own_of(("not", ("x",)))), (("read", ("x",)), ("do", "not"), ("own", 2)))
        told = ("less", ("sum", n(1), ("not", n(2))), ("times", n(3), n(4)))
        self.assertEqual(compiled(own_of(told)), (push(1), push(2), ("do", "not"), ("do", "sum"), push(3), push(4),
                                                  ("do", "times"), ("do", "less"), ("own", 2)))

    def test_deeds(self):
        self.assertEqual(compiled((("mark", 15, n(1)),)), (push(1), ("mark", 15)))
        self.assertEqual(compiled((("go", n(1), ("dy",)),)), (push(1), ("read", ("dy",)), ("go",)))
        self.assertEqual(compiled((("born", 7, n(1), n(2), n(3), n(4)),)),
                         (push(1), push(2), push(3), push(4), ("born", 7)))
        self.assertEqual(compiled((("gone",), ("own", 0, n(1)), ("gone",))),
                         (("gone",), push(1), ("own", 0), ("gone",)))

    def test_pick(self):
        self.assertEqual(compiled(own_of(("pick", ("x",), n(1), n(2)))),
                         (("read", ("x",)), ("nought", 2), push(1), ("over", 1), push(2), ("own", 2)))
        told = ("pick", ("x",), ("sum", n(1), n(2)), ("not", n(4)))
        self.assertEqual(compiled(own_of(told)),
                         (("read", ("x",)), ("nought", 4), push(1), push(2), ("do", "sum"), ("over", 2), push(4),
                          ("do", "not"), ("own", 2)))

    def test_when(self):
        self.assertEqual(compiled((("when", ("x",), (), ()),)), (("read", ("x",)), ("nought", 1), ("over", 0)))
        self.assertEqual(compiled((("when", ("x",), (("gone",),), ()),)),
                         (("read", ("x",)), ("nought", 2), ("gone",), ("over", 0)))
        self.assertEqual(compiled((("when", ("x",), (), (("gone",), ("gone",))), ("gone",))),
                         (("read", ("x",)), ("nought", 1), ("over", 2), ("gone",), ("gone",), ("gone",)))

    def test_pick_and_when_within_one_another(self):
        inner = ("when", ("pick", ("x",), n(1), n(0)), (("own", 0, n(5)),), (("gone",),))
        code = (("read", ("x",)), ("nought", 2), push(1), ("over", 1), push(0), ("nought", 3), push(5), ("own", 0),
                ("over", 1), ("gone",))
        self.assertEqual(compiled((inner,)), code)
        self.assertEqual(compiled((("when", ("y",), (inner,), ()),)),
                         (("read", ("y",)), ("nought", 11), *code, ("over", 0)))
        told = ("pick", n(1), ("pick", n(2), n(3), n(4)), n(5))
        self.assertEqual(compiled(own_of(told)), (push(1), ("nought", 6), push(2), ("nought", 2), push(3), ("over", 1),
                                                  push(4), ("over", 1), push(5), ("own", 2)))

    def test_by_name(self):
        self.assertEqual(compiled(script=(("gone",),)), (("gone",),))

    def test_errors(self):
        for wrong in WRONG_SCRIPTS:
            self.raises(InvalidScript, wrong, compiled, wrong)
            self.raises(InvalidScript, wrong, run, wrong, READS)


class TestRun(Case):
    def test_run_is_plain_run(self):
        rng = random.Random(81)
        for script in (hero_rules(), CART_RULES, SHOT_RULES, BUBBLE_RULES):
            self.assertEqual(run(script=script, reads=READS), plain_run(script, READS))
        for _ in range(1500):
            script, reads = random_script(rng, 4), random_reads(rng)
            told = plain_run(script, reads)
            self.assertEqual(run(script, reads), told)
            code = compiled(script)
            self.assertEqual(run_code(code, reads), slow_run_code(code, reads))
            self.assertEqual(run_code(code, reads)[0], told)
            self.assertLessEqual(run_code(code, reads)[1], len(code))

    def test_how_many_things_were_done(self):
        for code, many in (((), 0), ((("gone",),) * 3, 3), ((("over", 0),), 1),
                           ((("over", 2), ("gone",), ("gone",)), 1), ((push(0), ("nought", 1), ("gone",)), 2),
                           ((push(1), ("nought", 1), ("gone",)), 3)):
            self.assertEqual(run_code(code=code, reads=READS)[1], many, code)
        code = compiled((("when", ("held", 0), (("gone",),), (("gone",), ("gone",))),))
        self.assertEqual([run_code(code, READS[:1] + (press,) + READS[2:])[1] for press in (1, 0)], [4, 4])

    def test_each_thing_by_itself(self):
        def told(*code):
            return run_code(code, READS)[0]
        self.assertEqual(told(), (3, -4, (10, 20, 30, 40), (), None, (), False))
        self.assertEqual(told(push(-999999), ("own", 3))[2], (10, 20, 30, -999))
        self.assertEqual(told(push(999999), ("mark", 15), ("read", ("mark", 15)), ("mark", 2))[3],
                         ((2, 999), (15, 999)))
        self.assertEqual(told(push(5), push(-6), ("go",))[:2], (5, -6))
        self.assertEqual(told(push(1), push(2), push(3), push(4), ("born", 6))[5], ((6, 1, 2, 3, 4),))
        self.assertEqual(told(*(push(1),) * 12, *(("born", 6),) * 3)[5], ((6, 1, 1, 1, 1),) * 2)
        self.assertEqual(told(("gone",))[6], True)
        self.assertEqual(told(push(9), push(2), ("do", "less"), ("own", 0))[2][0], 7)
        self.assertEqual(told(push(999999), push(5), ("do", "sum"), push(1), ("do", "less"), ("own", 0))[2][0], 999)
        self.assertEqual(told(("read", ("drawn", 99)), ("own", 0))[4], 599)

    def test_numbers_left_at_the_end(self):
        self.assertEqual(run_code((push(1), ("read", ("x",)), ("gone",)), READS), (plain_run((("gone",),), READS), 3))

    def test_small_codes(self):
        rng = random.Random(82)
        for code in small_codes(rng, 400):
            reads = random_reads(rng)
            self.assertEqual(run_code(code, reads), slow_run_code(code, reads))


class TestShorter(Case):
    def check(self, code, due):
        self.assertEqual(slow_shorter(code), due)
        self.assertEqual(shorter(code), due)

    def test_nothing_to_shorten(self):
        for code in ((), (push(1),), (push(1), ("own", 0)), (push(1), ("read", ("x",)), ("do", "sum"), ("own", 0)),
                     (("read", ("x",)), push(1), ("do", "sum"), ("own", 0)), (("read", ("x",)), ("do", "not")),
                     (("read", ("x",)), ("nought", 1), ("gone",)), (push(1), push(2), ("go",))):
            self.check(code, code)

    def test_a_do_behind_pushes(self):
        for name, number in (("sum", 5), ("less", 9), ("times", -14), ("part", -4), ("rest", -1), ("least", -2),
                             ("most", 7), ("same", 0), ("below", 0), ("both", 1), ("either", 1)):
            self.check((push(7), push(-2), ("do", name), ("own", 0)), (push(number), ("own", 0)))
        self.check((push(5), push(0), ("do", "part")), (push(0),))
        self.check((push(999999), push(999999), ("do", "times")), (push(999999),))
        self.check((push(-999999), push(1), ("do", "less")), (push(-999999),))
        for number, due in ((0, 1), (5, 0), (-1, 0)):
            self.check((push(number), ("do", "not"), ("own", 0)), (push(due), ("own", 0)))
            self.check((push(9), push(number), ("do", "not"), ("go",)), (push(9), push(due), ("go",)))

    def test_one_behind_another(self):
        self.check((push(1), push(2), push(3), ("do", "sum"), ("do", "times"), ("own", 0)), (push(5), ("own", 0)))
        self.check((push(1), push(2), ("do", "sum"), push(3), ("do", "sum"), ("do", "not")), (push(0),))
        self.check((("read", ("x",)), push(2), push(3), ("do", "sum"), ("do", "times")),
                   (("read", ("x",)), push(5), ("do", "times")))

    def test_a_do_behind_pushes_that_are_led_to(self):
        x = ("read", ("x",))
        # The first may be led to.
        self.check((x, ("nought", 1), ("gone",), push(1), push(2), ("do", "sum"), ("own", 0)),
                   (x, ("nought", 1), ("gone",), push(3), ("own", 0)))
        self.check((x, ("nought", 1), ("gone",), push(1), ("do", "not"), ("own", 0)),
                   (x, ("nought", 1), ("gone",), push(0), ("own", 0)))
        # So may what is behind them.
        self.check((x, ("nought", 2), push(5), ("over", 3), push(1), push(2), ("do", "sum"), ("own", 0)),
                   (x, ("nought", 2), push(5), ("over", 1), push(3), ("own", 0)))
        self.check((x, ("nought", 2), push(5), ("over", 2), push(1), ("do", "not"), ("own", 0)),
                   (x, ("nought", 2), push(5), ("over", 1), push(0), ("own", 0)))
        # Not the second one, nor the "do".
        for code in ((x, ("nought", 2), push(1), ("over", 1), push(2), ("do", "not"), ("own", 0)),
                     (push(5), x, ("nought", 2), push(1), ("over", 1), push(2), ("do", "sum"), ("own", 0))):
            self.check(code, code)
        code = (push(1), x, ("nought", 1), ("gone",), push(2), ("do", "sum"), ("own", 0))
        self.check(code, code)

    def test_a_nought_behind_a_push(self):
        self.check((push(3), ("nought", 1), ("gone",), push(1), ("own", 0)), (("gone",), push(1), ("own", 0)))
        self.check((push(0), ("nought", 1), ("gone",), push(1), ("own", 0)), (push(1), ("own", 0)))
        self.check((push(0), ("nought", 0), ("gone",)), (("gone",),))
        self.check((push(0), ("nought", 2), ("gone",), ("gone",)), ())
        self.check((("gone",), push(-1), ("nought", 1), ("gone",)), (("gone",), ("gone",)))

    def test_a_nought_that_is_led_to(self):
        code = compiled((("when", ("pick", ("x",), ("y",), n(0)), (("gone",),), ()),))
        self.assertEqual(code[3:], (("over", 1), push(0), ("nought", 2), ("gone",), ("over", 0)))
        self.check(code, code[:5] + (("nought", 1), ("gone",)))

    def test_what_is_left_out_and_led_to_by_one_that_stays(self):
        x = ("read", ("x",))
        # The first "nought" leads into what the second one would leave out.
        code = (x, ("nought", 3), push(0), ("nought", 2), ("gone",), ("gone",), ("gone",))
        self.check(code, code)
        code = (x, ("nought", 2), push(0), ("nought", 2), ("gone",), ("gone",))
        self.check(code, code)
        # It is done if it goes out itself.
        self.check((push(0), ("nought", 4), x, ("nought", 1), ("gone",), ("gone",)), ())
        # A push that is not 0 goes out though what is behind it is led to.
        self.check((x, ("nought", 3), push(1), ("nought", 2), ("gone",), ("gone",), ("gone",)),
                   (x, ("nought", 1), ("gone",), ("gone",), ("gone",)))
        # Who led to the push leads to what is in its place.
        self.check((x, ("nought", 1), ("gone",), push(0), ("nought", 1), ("gone",), push(7), ("own", 0)),
                   (x, ("nought", 1), ("gone",), push(7), ("own", 0)))

    def test_an_over(self):
        self.check((("over", 0),), ())
        self.check((("over", 2), ("gone",), push(1), ("gone",)), (("gone",),))
        self.check((("gone",), ("over", 1), ("gone",)), (("gone",),))
        x = ("read", ("x",))
        code = (x, ("nought", 2), push(1), ("over", 1), push(2), ("own", 0))
        self.check(code, code)
        self.check((x, ("nought", 2), ("gone",), ("over", 0), ("gone",)), (x, ("nought", 1), ("gone",), ("gone",)))
        # Led to by one that goes out with it.
        self.check((("over", 3), x, ("nought", 1), ("gone",), ("gone",)), (("gone",),))
        # Who led to the "over" leads to what is behind what it left out.
        self.check((x, ("nought", 1), ("gone",), ("over", 2), ("gone",), ("gone",), push(1), ("own", 0)),
                   (x, ("nought", 1), ("gone",), push(1), ("own", 0)))

    def test_a_pick_and_a_when_of_what_is_known(self):
        for number, due in ((0, 22), (1, 11), (-5, 11)):
            self.check(compiled(own_of(("pick", n(number), n(11), n(22)))), (push(due), ("own", 2)))
            script = (("when", ("sum", n(number), n(0)), (("own", 0, n(11)),), (("own", 0, n(22)),)), ("gone",))
            self.check(compiled(script), (push(due), ("own", 0), ("gone",)))

    def test_the_first_place_comes_first(self):
        """The inner one is done first here, as the outer one can not be done yet."""
        x = ("read", ("x",))
        script = (("when", x[1], (("when", n(0), (("gone",),), (("own", 0, n(1)),)),), ()),)
        self.check(compiled(script), (x, ("nought", 2), push(1), ("own", 0)))

    def test_random_scripts(self):
        rng = random.Random(83)
        for _ in range(600):
            script = random_script(rng, 4)
            code = compiled(script)
            told = shorter(code)
            self.assertEqual(told, slow_shorter(code))
            for _ in range(3):
                reads = random_reads(rng)
                plain, many = run_code(code, reads)
                newer, fewer = run_code(told, reads)
                self.assertEqual(newer, plain)
                self.assertLessEqual(fewer, many)
            self.assertEqual(shorter(told), told)

    def test_small_codes(self):
        rng = random.Random(84)
        for code in small_codes(rng, 3000):
            told = shorter(code=code)
            self.assertEqual(told, slow_shorter(code), code)
            self.assertTrue(has_fitting_ways(told))
            reads = random_reads(rng)
            self.assertEqual(run_code(told, reads)[0], run_code(code, reads)[0])

    def test_a_code_of_200_things(self):
        code = (push(1),) + (push(1), ("do", "sum")) * 99 + (("own", 0),)
        self.check(code, (push(100), ("own", 0)))
        code = (push(1), ("nought", 0)) * 100
        self.check(code, ())


class TestScriptOf(Case):
    def test_of_what_is_compiled(self):
        rng = random.Random(85)
        for script in ((), hero_rules(), CART_RULES, SHOT_RULES, BUBBLE_RULES, (("when", n(0), (), ()),)):
            self.assertEqual(script_of(code=compiled(script)), script)
        for leaf in LEAVES:
            self.assertEqual(script_of(compiled(own_of(leaf))), own_of(leaf))
        for _ in range(1500):
            script = random_script(rng, 4)
            self.assertEqual(script_of(compiled(script)), script)

    def test_codes_that_no_script_compiles_to(self):
        x = ("read", ("x",))
        for code in ((push(1),), (push(10000), ("own", 0)), (push(-10000), ("own", 0)), (("over", 0),),
                     (("gone",), ("over", 1), ("gone",)), (push(1), push(2), ("own", 0), ("own", 1)),
                     (push(1), push(2), ("own", 0)), (push(1), ("gone",), ("own", 0)),
                     (x, ("nought", 0), ("gone",)), (x, ("nought", 1), ("gone",)),
                     (x, ("nought", 1), ("gone",), ("gone",)), (x, ("nought", 2), push(1), ("own", 0), ("gone",)),
                     (push(1), x, ("nought", 1), ("over", 0), ("own", 0)),
                     (x, ("nought", 2), ("gone",), ("over", 1), ("gone",), push(3)),
                     (x, ("nought", 3), ("gone",), push(1), ("over", 2), ("gone",), push(1), ("own", 0)),
                     (push(1), push(2), x, ("nought", 2), ("own", 0), ("over", 1), ("own", 0), ("own", 1))):
            self.assertTrue(has_fitting_ways(code), code)
            self.assertIsNone(script_of(code), code)

    def test_leaps_that_cross_the_end_of_a_part(self):
        x = ("read", ("x",))
        code = (x, ("nought", 5), x, ("nought", 2), ("gone",), ("over", 2), ("over", 1), ("gone",), ("gone",))
        self.assertTrue(has_fitting_ways(code))
        self.assertIsNone(script_of(code))

    def test_scripts_that_are_too_large_or_too_deep(self):
        self.assertEqual(script_of((("gone",),) * 60), (("gone",),) * 60)
        self.assertIsNone(script_of((("gone",),) * 61))
        for nots in (6, 7, 150):
            code = (push(1),) + (("do", "not"),) * nots + (("own", 0),)
            told = n(1)
            for _ in range(nots):
                told = ("not", told)
            self.assertEqual(script_of(code), (("own", 0, told),) if nots < 7 else None)

    def test_many_leaps_within_one_another(self):
        code = ()
        for _ in range(49):
            code = (push(1), ("nought", len(code) + 1)) + code + (("over", 0),)
        self.assertIsNone(script_of(code))
        code = ()
        for _ in range(7):
            code = (push(1), ("nought", len(code) + 1)) + code + (("over", 0),)
        self.assertEqual(compiled(script_of(code)), code)

    def test_shortened_codes_and_small_ones(self):
        rng = random.Random(86)
        found = 0
        codes = [shorter(compiled(random_script(rng, 4))) for _ in range(400)] + list(small_codes(rng, 3000))
        for code in codes:
            script = script_of(code)
            if script is not None:
                found += 1
                self.assertTrue(is_script(script))
                self.assertEqual(compiled(script), code)
        self.assertTrue(100 < found < len(codes))

    def test_each_small_script_comes_back(self):
        """Whatever compiles to a small code is found again from it."""
        rng = random.Random(87)
        for _ in range(1000):
            script = random_deeds(rng, 2, 1)
            if is_script(script):
                self.assertEqual(script_of(compiled(script)), script)


class TestInvalidCode(Case):
    def wrong(self, *code):
        for call in (shorter, script_of):
            self.raises(InvalidCode, code, call, code)
        self.raises(InvalidCode, code, run_code, code, READS)

    def right(self, *code):
        shorter(code)
        script_of(code)
        run_code(code, READS)

    def test_forms(self):
        for thing in ((), ("no",), ("push",), ("push", 1000000), ("push", -1000000), ("push", 1, 2), ("push", "1"),
                      ("push", None), ("read",), ("read", n(1)), ("read", ("sum", n(1), n(2))),
                      ("read", ("not", ("x",))), ("read", ("pick", n(1), n(1), n(1))), ("read", ("own", 4)),
                      ("read", ("drawn", 0)), ("read", ("x", 0)), ("read", ("here", "x")), ("read", ()), ("read", "x"),
                      ("do", "pick"), ("do", "x"), ("do",), ("do", "sum", 2), ("do", 3), ("own",), ("own", 4),
                      ("own", -1), ("own", 0, 1), ("mark", 16), ("mark", -1), ("go", 1), ("born", 8), ("born", -1),
                      ("born",), ("gone", 0), ("over", -1), ("over",), ("over", "0"), ("nought", -1), ("nought",),
                      ("number", 3), ("when", 0), ("pick", 0), (1,), ((),)):
            self.wrong(*[push(0)] * 5, thing)
            # Things to which no way leads are looked at by their forms, too.
            self.wrong(("over", 1), thing)
        for number in (999999, -999999):
            self.right(push(number))
        for leaf in LEAVES:
            self.right(("read", leaf))

    def test_too_few_numbers(self):
        for name in PAIRS:
            self.wrong(("do", name))
            self.wrong(push(1), ("do", name))
            self.right(push(1), push(1), ("do", name))
        for thing, many in ((("do", "not"), 1), (("own", 0), 1), (("mark", 0), 1), (("go",), 2), (("born", 0), 4),
                            (("nought", 0), 1)):
            self.wrong(*[push(1)] * (many - 1), thing)
            self.right(*[push(1)] * many, thing)
            self.right(*[push(1)] * (many + 1), thing)

    def test_too_few_numbers_on_some_way(self):
        self.wrong(push(0), push(1), ("nought", 1), ("own", 0), ("own", 0))
        self.wrong(push(1), ("nought", 1), ("own", 0), push(1))
        self.wrong(push(1), ("nought", 1), push(1), ("own", 0))

    def test_unlike_many_on_two_ways(self):
        self.wrong(push(1), ("nought", 1), push(1), ("gone",))
        self.wrong(push(1), push(1), ("nought", 1), ("own", 0), ("gone",))
        self.wrong(push(1), ("nought", 1), push(1))
        self.wrong(push(1), push(1), ("nought", 1), ("own", 0))
        self.wrong(push(1), ("nought", 2), push(1), ("over", 1), ("gone",), ("own", 0))
        self.right(push(1), ("nought", 2), push(1), ("over", 1), push(2))
        self.right(push(1), ("nought", 1), ("gone",), push(2))

    def test_beyond_the_end(self):
        for leap in ("over", "nought"):
            self.right(push(1), (leap, 0))
            self.right(push(1), (leap, 1), ("gone",))
            self.wrong(push(1), (leap, 1))
            self.wrong(push(1), (leap, 2), ("gone",))
            self.wrong(push(1), (leap, 10 ** 9), ("gone",))

    def test_things_to_which_no_way_leads(self):
        self.right(("over", 2), ("own", 0), ("do", "sum"))
        self.right(("over", 2), push(1), push(1), ("gone",))
        self.right(("over", 2), ("nought", 1), push(1), ("gone",))
        self.right(push(1), ("over", 3), push(1), ("over", 1), ("own", 0), ("own", 1))
        self.wrong(("over", 1), ("over", 1))
        self.wrong(("over", 1), ("nought", 1))

    def test_numbers_left_at_the_end(self):
        self.right(push(1), push(2), push(3))

    def test_small_codes_by_going_all_ways(self):
        rng = random.Random(88)
        things = (push(0), push(1), ("read", ("x",)), ("do", "sum"), ("do", "not"), ("own", 0), ("gone",))
        found = [0, 0]
        for _ in range(4000):
            code = tuple(rng.choice((*things, ("over", rng.randrange(4)), ("nought", rng.randrange(4))))
                         for _ in range(rng.randint(1, 6)))
            right = has_fitting_ways(code)
            found[right] += 1
            if right:
                self.right(*code)
            else:
                self.wrong(*code)
        self.assertGreater(min(found), 200)


if __name__ == "__main__":
    unittest.main()
