"""Code once more, written from the document, to compare the program with."""

from slow_engine import clamp, number_of, run_script

LEAVES = ("own", "mark", "x", "y", "dx", "dy", "rests", "held", "met", "met own", "here", "under", "drawn")
END = "end"


def has_fitting_ways(code):
    """By going all ways: never too few numbers, never beyond the end, as many on all ways to one place."""
    heights = {}

    def go(place, height):
        if height < 0 or place > len(code) or heights.setdefault(place, height) != height:
            return False
        if place == len(code):
            return True
        name, *rest = code[place]
        takes = {"own": 1, "mark": 1, "go": 2, "born": 4, "nought": 1}.get(name, 0)
        if name == "do":
            takes = 1 if rest[0] == "not" else 2
        if takes > height:
            return False
        height += (name in ("push", "read", "do")) - takes
        ways = {"over": lambda: [1 + rest[0]], "nought": lambda: [1, 1 + rest[0]]}.get(name, lambda: [1])()
        return all(go(place + way, height) for way in ways)

    lengths = all(place + 1 + thing[1] <= len(code) for place,
                  thing in enumerate(code) if thing[0] in ("over", "nought"))
    return lengths and go(0, 0)


def slow_run_code(code, reads):
    """(what is told, how many things were done)."""
    thing, press, marks, seed, met, here, below = reads
    run = {"thing": thing, "press": press, "marks": list(marks), "seed": seed, "met": met, "here": here,
           "below": below, "own": list(thing[7]), "dx": thing[4], "dy": thing[5], "drawn": False}
    put, births, gone, row, place, done = {}, [], False, [], 0, []
    while place < len(code):
        assert place not in done
        done.append(place)
        name, *rest = code[place]
        place += 1
        if name == "push":
            row.append(rest[0])
        elif name == "read":
            row.append(number_of(rest[0], run))
        elif name == "do":
            sides = [("number", row.pop())] if rest[0] == "not" else [("number", row.pop()),
                                                                      ("number", row.pop())][::-1]
            row.append(number_of((rest[0], *sides), run))
        elif name == "own":
            run["own"][rest[0]] = clamp(row.pop(), -999, 999)
        elif name == "mark":
            run["marks"][rest[0]] = put[rest[0]] = clamp(row.pop(), -999, 999)
        elif name == "go":
            run["dy"], run["dx"] = clamp(row.pop(), -7, 7), clamp(row.pop(), -7, 7)
        elif name == "born":
            d, c, b, a = [row.pop() for _ in range(4)]
            if len(births) < 2:
                births.append((rest[0], clamp(a, -64, 64), clamp(b, -64, 64), clamp(c, -7, 7), clamp(d, -7, 7)))
        elif name == "gone":
            gone = True
        elif name == "over" or row.pop() == 0:
            place += rest[0]
    told = (run["dx"], run["dy"], tuple(run["own"]), tuple(sorted(put.items())),
            run["seed"] if run["drawn"] else None, tuple(births), gone)
    return told, len(done)


class Node:
    """A thing of code that knows to which thing it leads."""

    def __init__(self, thing):
        self.thing = thing
        self.to = None

    def name(self):
        return self.thing[0]


def to_nodes(code):
    nodes = [Node(thing) for thing in code]
    for place, node in enumerate(nodes):
        if node.name() in ("over", "nought"):
            node.to = (nodes + [END])[place + 1 + node.thing[1]]
    return nodes


def to_code(nodes):
    return tuple((node.name(), (nodes + [END]).index(node.to) - place - 1) if node.to else node.thing
                 for place, node in enumerate(nodes))


def take_out(nodes, out):
    """What is left; who led to what went out leads to what comes behind it."""
    for node in nodes:
        while node.to in out:
            node.to = (nodes + [END])[nodes.index(node.to) + 1]
    return [node for node in nodes if node not in out]


def leads(nodes, target):
    return any(node.to is target for node in nodes)


def step(nodes):
    """The nodes behind the first thing that can be done, None if there is none."""
    for place, node in enumerate(nodes):
        three = nodes[place:place + 3]
        names = [one.name() for one in three]
        if names == ["push", "push", "do"] and three[2].thing[1] != "not" and not leads(nodes, three[1]) \
                and not leads(nodes, three[2]):
            number = number_of((three[2].thing[1], *[("number", one.thing[1]) for one in three[:2]]), {"met": ()})
            node.thing = ("push", number)
            return take_out(nodes, three[1:])
        if names[:2] == ["push", "do"] and three[1].thing[1] == "not" and not leads(nodes, three[1]):
            node.thing = ("push", int(node.thing[1] == 0))
            return take_out(nodes, three[1:2])
        if names[:2] == ["push", "nought"] and not leads(nodes, three[1]):
            out = three[:2]
            if node.thing[1] == 0:
                more = nodes[place + 2:place + 2 + to_code(nodes)[place + 1][1]]
                if any(leads([one for one in nodes if one not in out + more], target) for target in more):
                    continue
                out = out + more
            return take_out(nodes, out)
        if names[0] == "over":
            more = nodes[place + 1:place + 1 + to_code(nodes)[place][1]]
            if not any(leads([one for one in nodes if one not in more + [node]], target) for target in more):
                return take_out(nodes, [node] + more)
    return None


def slow_shorter(code):
    nodes = to_nodes(code)
    while True:
        newer = step(nodes)
        if newer is None:
            return to_code(nodes)
        nodes = newer
