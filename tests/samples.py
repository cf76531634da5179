"""Games, worlds and scripts by chance, from a seeded random source."""

from latepresses.cells import Looks, first_world
from latepresses.deeds import all_deeds, done
from latepresses.levels import is_game
from latepresses.scripts import is_script

LEAVES = ("number", "own", "mark", "x", "y", "dx", "dy", "rests", "held", "met", "met own", "here", "under", "drawn")
PAIRS = ("sum", "less", "times", "part", "rest", "least", "most", "same", "below", "both", "either")
TRAITS = ("bars", "carries", "falls", "frail", "pushed")


def random_expression(rng, kinds, deep=2):
    if deep == 0 or rng.random() < 0.4:
        name = rng.choice(LEAVES)
        parts = {
            "number": lambda: (rng.choice((rng.randint(-9, 9), rng.randint(-70, 70), rng.randint(-9999, 9999))),),
            "own": lambda: (rng.randrange(4),), "mark": lambda: (rng.randrange(16),),
            "held": lambda: (rng.randrange(6),), "met": lambda: (rng.randrange(kinds),),
            "met own": lambda: (rng.randrange(kinds), rng.randrange(4)), "here": lambda: (rng.choice(".#=<>^wg"),),
            "under": lambda: (rng.choice(".#=<>^wg"),), "drawn": lambda: (rng.randint(1, 99),),
        }
        return (name, *parts.get(name, tuple)())
    draw = rng.random()
    if draw < 0.1:
        return ("not", random_expression(rng, kinds, deep - 1))
    if draw < 0.25:
        return ("pick", *[random_expression(rng, kinds, deep - 1) for _ in range(3)])
    return (rng.choice(PAIRS), *[random_expression(rng, kinds, deep - 1) for _ in range(2)])


def random_deeds(rng, kinds, deep=2):
    deeds = []
    for _ in range(rng.randint(0, 2) if deep < 2 else rng.randint(0, 4)):
        name = rng.choice(("own", "mark", "go", "go", "born", "gone", "when", "when"))

        def some():
            return random_expression(rng, kinds, rng.randint(0, 2))

        def small(end):
            return rng.choice((("number", rng.randint(-end, end)), some()))

        if name == "own":
            deeds.append(("own", rng.randrange(4), some()))
        elif name == "mark":
            deeds.append(("mark", rng.randrange(16), some()))
        elif name == "go":
            deeds.append(("go", small(7), small(7)))
        elif name == "born":
            deeds.append(("born", rng.randrange(kinds), small(20), small(20), small(7), small(7)))
        elif name == "gone" and rng.random() < 0.2:
            deeds.append(("gone",))
        elif deep > 0:
            deeds.append(("when", some(), random_deeds(rng, kinds, deep - 1), random_deeds(rng, kinds, deep - 1)))
    return tuple(deeds)


def random_script(rng, kinds):
    while True:
        script = random_deeds(rng, kinds)
        if is_script(script):
            return script


def random_reads(rng):
    def row(many, end):
        return tuple(rng.randint(-end, end) for _ in range(many))
    thing = (rng.randrange(4), rng.randint(-1, 3), *row(2, 200), *row(2, 7), rng.randint(-2, 15), row(4, 999))
    met = tuple((slot, rng.randrange(4), rng.randint(-1, 3), row(4, 999)) for slot in range(rng.randrange(5)))
    return (thing, rng.randrange(64), row(16, 999), rng.randrange(65537), met,
            rng.choice(".#=<>^wg"), rng.choice(".#=<>^wg"))


def random_traits(rng):
    traits = [trait for trait in TRAITS if rng.random() < 0.55]
    if "bars" not in traits:
        traits = [trait for trait in traits if trait not in ("carries", "pushed")]
    return tuple(traits)


def random_rows(rng):
    wide, high = rng.randint(4, 10), rng.randint(3, 8)
    signs = "." * rng.randint(10, 30) + "#=<>^wg"
    rows = ["".join(rng.choice(signs) for _ in range(wide)) for _ in range(high)]
    if rng.random() < 0.6:
        rows[-1] = "".join(rng.choice("##<>=.") for _ in range(wide))
    return tuple(rows)


def random_game(rng):
    """A right game with as many starts as came to stand right in some tries."""
    many = rng.randint(1, 5)
    kinds = tuple(("abcde"[k], rng.randint(1, 16), rng.randint(1, 16), random_traits(rng),
                   tuple(rng.randint(-9, 9) for _ in range(4)), random_script(rng, many)) for k in range(many))
    rows = random_rows(rng)
    houses = rng.randint(1, 4)
    starts = ()
    for _ in range(60):
        start = (rng.randrange(many), rng.randint(-1, houses - 1),
                 rng.randint(0, 8 * len(rows[0]) - 1), rng.randint(0, 8 * len(rows) - 1))
        if len(starts) < 12 and is_game(((rows, starts + (start,), houses, 0), kinds)):
            starts += (start,)
    return ((rows, starts, houses, rng.randint(0, 3)), kinds)


def crowded_game(rng):
    """A right game of many small things that bar, push, carry and go about."""
    kinds = []
    for name in "abcd":
        traits = tuple(trait for trait in TRAITS if trait == "bars" or rng.random() < 0.6)
        go = ("go", ("number", rng.randint(-4, 4)), ("pick", ("same", ("drawn", 5), ("number", 0)),
                                                     ("number", rng.randint(-6, 0)), ("dy",)))
        kinds.append((name, rng.randint(3, 14), rng.randint(3, 9), traits, (0, 0, 0, 0), (go,)))
    rows = ["".join(rng.choice("........=w") for _ in range(5)) for _ in range(5)]
    rows.append(rng.choice(("#####", "#><##", "##.##", "##=<>")))
    starts = ()
    for _ in range(200):
        start = (rng.randrange(4), -1, rng.randint(0, 39), rng.randint(0, 39))
        if len(starts) < 12 and is_game(((tuple(rows), starts + (start,), 1, 1), tuple(kinds))):
            starts += (start,)
    return ((tuple(rows), starts, 1, rng.randint(0, 3)), tuple(kinds))


def random_presses(rng, game):
    return tuple(rng.randrange(64) for _ in range(game[0][2]))


def behind(world, writes):
    """The world behind what was written."""
    cells = list(world)
    for cell, value in writes:
        cells[cell] = value
    return tuple(cells)


def after_tick(game, world, presses):
    for deed in all_deeds():
        world = behind(world, done(game, presses, deed, Looks(world)))
    return world


def first(game, seed=7):
    return first_world(game, seed)


def n(number):
    return ("number", number)


def hero_rules(reach=3):
    """Goes and jumps by what is pressed, shoots by a, counts in mark 0 by b."""
    way = ("less", ("times", ("held", 1), n(reach)), ("times", ("held", 0), n(reach)))
    jump = ("pick", ("both", ("held", 2), ("rests",)), n(-6), ("dy",))
    return (("go", way, jump), ("own", 0, ("met", 1)),
            ("when", ("held", 4), (("born", 3, n(7), n(1), n(5), n(-1)),), ()),
            ("when", ("held", 5), (("mark", 0, ("sum", ("mark", 0), n(1))),), ()))


SHOT_RULES = (("own", 0, ("sum", ("own", 0), n(1))), ("when", ("below", n(4), ("own", 0)), (("gone",),), ()))
CART_RULES = (("go", ("pick", ("below", ("own", 1), n(4)), n(2), n(-2)), n(0)),
              ("own", 1, ("rest", ("sum", ("own", 1), n(1)), n(8))))
BUBBLE_RULES = (("go", ("less", ("drawn", 5), n(2)), ("less", ("drawn", 3), n(1))),
                ("mark", 1, ("sum", ("mark", 1), ("met", 0))))
PLAYED_KINDS = (("hero", 6, 8, ("bars", "falls", "frail"), (0, 0, 0, 0), hero_rules()),
                ("crate", 8, 8, ("bars", "falls", "pushed"), (0, 0, 0, 0), ()),
                ("cart", 10, 5, ("bars", "carries", "falls"), (0, 0, 0, 0), CART_RULES),
                ("shot", 3, 3, ("falls", "frail"), (0, 0, 0, 0), SHOT_RULES),
                ("bubble", 5, 5, (), (0, 0, 0, 0), BUBBLE_RULES))
PLAYED_ROWS = ("............", "..=....====.", "............", "............", "ww...#......", "ww...#.^....",
               "##<>####.###")


def played_game(houses=2):
    """A game whose heroes hear presses, with carrying, pushing, belts, water, spikes, births, marks and draws."""
    starts = ((0, 0, 18, 0), (0, 1 % houses, 60, 0), (1, -1, 28, 40), (2, -1, 76, 43), (1, -1, 77, 35),
              (4, -1, 3, 34), (0, houses - 1, 4, 40))
    return ((PLAYED_ROWS, starts, houses, 1), PLAYED_KINDS)


def random_rows_of_presses(rng, game, many):
    return tuple(random_presses(rng, game) for _ in range(many))
