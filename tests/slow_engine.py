"""The deeds of a tick once more, written from the document by sets of units, to compare the program with.

Each deed is done on a plain copy of the cells. What it looks at is told apart from what it reads, sentence by
sentence as point [8] has it.
"""

import re

BLOCK = 32


def clamp(number, low, high):
    return sorted((low, number, high))[1]


def units(box):
    x, y, wide, high = box
    return {(a, b) for a in range(x, x + wide) for b in range(y, y + high)}


def number_of(told, run):
    """The number of an expression; run is a dict of what is read, and changes where a seed is drawn."""
    name, rest = told[0], told[1:]
    if name == "pick":
        return number_of(rest[1] if number_of(rest[0], run) else rest[2], run)
    values = [number_of(part, run) if isinstance(part, tuple) else part for part in rest]
    a, b = (values + [None, None])[:2]
    if name == "drawn":
        run["drawn"] = True
        run["seed"] = (75 * run["seed"] + 74) % 65537
        return run["seed"] % a
    mine = [met for met in run["met"] if met[1] == a]
    table = {
        "number": lambda: a, "own": lambda: run["own"][a], "mark": lambda: run["marks"][a],
        "x": lambda: run["thing"][2], "y": lambda: run["thing"][3], "dx": lambda: run["dx"],
        "dy": lambda: run["dy"], "rests": lambda: run["thing"][6] != -2, "held": lambda: run["press"] // 2 ** a % 2,
        "met": lambda: len(mine), "met own": lambda: mine[0][3][b] if mine else 0,
        "here": lambda: run["here"] == a, "under": lambda: run["below"] == a,
        "sum": lambda: a + b, "less": lambda: a - b, "times": lambda: a * b,
        "part": lambda: a // b if b else 0, "rest": lambda: a % b if b else 0,
        "least": lambda: min(a, b), "most": lambda: max(a, b), "same": lambda: a == b, "below": lambda: a < b,
        "both": lambda: bool(a) and bool(b), "either": lambda: bool(a) or bool(b), "not": lambda: not a,
    }
    return clamp(int(table[name]()), -999999, 999999)


def do_script(script, run):
    for deed in script:
        name = deed[0]
        if name == "when":
            do_script(deed[2] if number_of(deed[1], run) else deed[3], run)
            continue
        found = [number_of(part, run) for part in deed[1:] if isinstance(part, tuple)]
        if name == "own":
            run["own"][deed[1]] = clamp(found[0], -999, 999)
        elif name == "mark":
            run["marks"][deed[1]] = run["put"][deed[1]] = clamp(found[0], -999, 999)
        elif name == "go":
            run["dx"], run["dy"] = [clamp(number, -7, 7) for number in found]
        elif name == "gone":
            run["gone"] = True
        elif len(run["births"]) < 2:
            ends = (64, 64, 7, 7)
            run["births"].append((deed[1], *[clamp(n, -end, end) for n, end in zip(found, ends)]))


def run_script(script, reads):
    thing, press, marks, seed, met, here, below = reads
    run = {"thing": thing, "press": press, "marks": list(marks), "seed": seed, "met": met, "here": here,
           "below": below, "own": list(thing[7]), "dx": thing[4], "dy": thing[5], "put": {}, "births": [],
           "gone": False, "drawn": False}
    do_script(script, run)
    drawn = run["seed"] if run["drawn"] else None
    return (run["dx"], run["dy"], tuple(run["own"]), tuple(sorted(run["put"].items())), drawn,
            tuple(run["births"]), run["gone"])


class SlowDeed:
    """One deed on a world: `cells` become those behind it, `looked` are the cells that it looked at."""

    def __init__(self, game, world, presses, deed):
        (self.rows, _, _, self.pull), self.kinds = game
        self.wide, self.high = 8 * len(self.rows[0]), 8 * len(self.rows)
        self.across = (len(self.rows[0]) + 3) // 4
        self.cells = list(world)
        self.changed = set()
        self.looked = set()
        phase, self.slot = deed
        self.look(self.slot)
        if self.cells[self.slot] is not None:
            press = presses[self.mine()[1]] if self.mine()[1] >= 0 else 0
            [lambda: self.phase_0(press), self.phase_1, self.phase_2, self.phase_3, self.phase_4][phase]()
        self.writes = tuple((cell, new) for cell, (old, new) in enumerate(zip(world, self.cells)) if old != new)

    def look(self, *cells):
        self.looked.update(cell for cell in cells if cell not in self.changed)

    def write(self, cell, value):
        self.cells[cell] = value
        self.changed.add(cell)

    def mine(self):
        return self.cells[self.slot]

    def kind(self, slot):
        return self.kinds[self.cells[slot][0]]

    def has(self, slot, trait):
        return trait in self.kind(slot)[3]

    def box(self, slot):
        thing = self.cells[slot]
        return (thing[2], thing[3], *self.kind(slot)[1:3])

    def sign(self, x, y):
        if not 0 <= x < self.wide or y < 0:
            return "#"
        return self.rows[y // 8][x // 8] if y < self.high else "."

    def signs(self, box):
        return {self.sign(x, y) for x, y in units(box)}

    def free(self, box):
        return not self.signs(box) & set("#<>")

    def fallen(self, box):
        return box[1] >= self.high

    def buckets(self, box):
        return {49 + y // BLOCK * self.across + x // BLOCK for x, y in units(box)
                if 0 <= x < self.wide and 0 <= y < self.high}

    def others(self, box):
        """The slots of all things, found by their units alone, with a unit in a box and in the floor."""
        inside = {(x, y) for x, y in units(box) if 0 <= x < self.wide and 0 <= y < self.high}
        if not inside:
            return []
        return [slot for slot in range(16) if self.cells[slot] is not None
                and not self.fallen(self.box(slot)) and units(box) & units(self.box(slot))]

    def look_near(self, box, but):
        """The buckets that a box has and the slots in them but some."""
        for cell in self.buckets(box):
            self.look(cell, *[slot for slot in self.cells[cell] if slot not in but])

    def set_buckets(self, slot, old, new):
        for cell in old ^ new:
            self.look(cell)
            inside = set(self.cells[cell]) | {slot} if cell in new else set(self.cells[cell]) - {slot}
            self.write(cell, tuple(sorted(inside)))

    def take_out(self, slot):
        self.set_buckets(slot, self.buckets(self.box(slot)), set())
        self.look(16 + slot)
        self.write(slot, None)
        self.write(16 + slot, ())

    def barred(self, box, dx, dy):
        x, y, wide, high = box
        if not self.free((x + dx, y + dy, wide, high)):
            return True
        ledges = {(a // 8, b // 8) for a, b in units((x, y + 1, wide, high)) if self.sign(a, b) == "="}
        return dy == 1 and any(y + high <= 8 * row for _, row in ledges)

    def lot(self, first, dx, dy):
        lot = [first]
        for c in lot:
            x, y, wide, high = self.box(c)
            if self.barred(self.box(c), dx, dy):
                return []
            if not self.has(c, "bars"):
                continue
            further = (x + dx, y + dy, wide, high)
            self.look_near(further, lot)
            for b in [b for b in self.others(further) if b not in lot]:
                if self.has(b, "bars"):
                    if not self.has(b, "pushed") and not (dy == -1 and self.has(b, "falls")):
                        return []
                    lot.append(b)
        return lot

    def go_one(self, first, dx, dy, carries):
        x, y, wide, _ = self.box(first)
        lot = self.lot(first, dx, dy)
        for slot in lot:
            old = self.buckets(self.box(slot))
            kind, house, a, b, *others = self.cells[slot]
            self.write(slot, (kind, house, a + dx, b + dy, *others))
            self.set_buckets(slot, old, self.buckets(self.box(slot)))
        if lot and carries and dy != -1 and self.has(first, "carries"):
            row = (x, y - 1, wide, 1)
            self.look_near(row, [first])
            for slot in [s for s in self.others(row) if s not in lot and self.cells[s][6] == first]:
                self.go_one(slot, dx, dy, False)
        return bool(lot)

    def put_mine(self, **changes):
        names = ("kind", "house", "x", "y", "dx", "dy", "rest", "own")
        self.write(self.slot, tuple(changes.get(name, old) for name, old in zip(names, self.mine())))

    def here(self):
        x, y, wide, high = self.box(self.slot)
        return self.sign(x + wide // 2, y + high // 2)

    def below(self):
        x, y, wide, high = self.box(self.slot)
        return self.sign(x + wide // 2, y + high)

    def phase_0(self, press):
        rules = self.kind(self.slot)[5]
        told = str(rules)
        marks = [self.cells[33 + i] if re.search(rf"'mark', {i}[,)]", told) else None for i in range(16)]
        self.look(*[33 + i for i in range(16) if marks[i] is not None])
        seed = self.cells[32] if "'drawn'" in told else None
        if seed is not None:
            self.look(32)
        met = ()
        if "'met" in told:
            self.look(16 + self.slot, *self.cells[16 + self.slot])
            met = tuple((s, self.cells[s][0], self.cells[s][1], self.cells[s][7])
                        for s in self.cells[16 + self.slot] if self.cells[s] is not None)
        maker = self.mine()
        reads = (maker, press, tuple(marks), seed, met, self.here(), self.below())
        dx, dy, own, put, drawn, births, gone = run_script(rules, reads)
        self.put_mine(dx=dx, dy=dy, own=own)
        for i, number in put:
            self.write(33 + i, number)
        if drawn is not None:
            self.write(32, drawn)
        for birth in births:
            self.bear(maker, *birth)
        if gone:
            self.take_out(self.slot)

    def bear(self, maker, kind, a, b, dx, dy):
        free = [slot for slot in range(16) if self.cells[slot] is None]
        self.look(*range(free[0] + 1 if free else 16))
        box = (maker[2] + a, maker[3] + b, *self.kinds[kind][1:3])
        if not free or not self.free(box) or self.fallen(box):
            return
        if "bars" in self.kinds[kind][3]:
            self.look_near(box, ())
            if any(self.has(slot, "bars") for slot in self.others(box)):
                return
        self.write(free[0], (kind, maker[1], box[0], box[1], dx, dy, -2, self.kinds[kind][4]))
        self.set_buckets(free[0], set(), self.buckets(box))

    def phase_1(self):
        many = self.mine()[4]
        if self.mine()[6] == -1:
            many += {"<": -1, ">": 1}.get(self.below(), 0)
        for _ in range(abs(many)):
            if not self.go_one(self.slot, 1 if many > 0 else -1, 0, True):
                self.put_mine(dx=0)
                break

    def phase_2(self):
        if self.fallen(self.box(self.slot)):
            return
        dx, dy = self.mine()[4:6]
        falls = self.has(self.slot, "falls")
        if falls and self.mine()[6] == -2:
            dy = min(7, dy + self.pull)
        if self.here() == "w":
            dx, dy = clamp(dx, -2, 2), clamp(dy, -2, 2)
        self.put_mine(dx=dx, dy=dy)
        for _ in range(abs(dy)):
            if not self.go_one(self.slot, 0, 1 if dy > 0 else -1, True):
                self.put_mine(dy=0)
                break
        self.put_mine(rest=self.rest() if falls else -2)

    def rest(self):
        x, y, wide, high = self.box(self.slot)
        if self.barred(self.box(self.slot), 0, 1):
            return -1
        if not self.has(self.slot, "bars"):
            return -2
        below = (x, y + 1, wide, high)
        self.look_near(below, [self.slot])
        return min([s for s in self.others(below) if s != self.slot and self.has(s, "bars")], default=-2)

    def phase_3(self):
        x, y, wide, high = self.box(self.slot)
        grown = (x - 1, y - 1, wide + 2, high + 2)
        self.look_near(grown, [self.slot])
        self.look(16 + self.slot)
        self.write(16 + self.slot, tuple(s for s in self.others(grown) if s != self.slot))

    def phase_4(self):
        stung = self.has(self.slot, "frail") and "^" in self.signs(self.box(self.slot))
        if stung or self.fallen(self.box(self.slot)):
            self.take_out(self.slot)
