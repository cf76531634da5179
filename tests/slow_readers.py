"""Readers once more, by what the document says of them: a text is right if it is shown so of a right thing, and a line
is wrong if nothing can be put behind it with which the text is right."""

import re

from latepresses.cells import first_world, is_world, with_thing
from latepresses.letters import is_letter
from latepresses.levels import is_game
from latepresses.papers import is_paper
from latepresses.scripts import is_script
from latepresses.texts import show_game, show_letter, show_paper, show_rows, show_script, show_world

NUMBERED = {"own": 1, "mark": 1, "held": 1, "met": 1, "met own": 2, "drawn": 1, "here": 0, "under": 0}


class Wrong(Exception):
    """No text of its kind."""


def number(text, digits=9):
    if not re.fullmatch("-?[0-9]{1,%d}" % digits, text):
        raise Wrong
    return int(text)


def numbers(text, between=" "):
    return tuple(number(word) for word in text.split(between))


def match(pattern, line):
    found = re.fullmatch(pattern, line)
    if not found:
        raise Wrong
    return found.groups()


def expression(text):
    """(expression, what stands behind it)."""
    if not text.startswith("("):
        word = re.match(r"[^ )]*", text)[0]
        return ("number", number(word)), text[len(word):]
    name = re.match(r"\((met own|[a-z]*)", text)[1]
    parts, text = [name], text[1 + len(name):]
    while text.startswith(" "):
        if name in NUMBERED:
            word = re.match(r"[^ )]*", text[1:])[0]
            parts.append(word if name in ("here", "under") else number(word))
            text = text[1 + len(word):]
        else:
            part, text = expression(text[1:])
            parts.append(part)
    if not text.startswith(")"):
        raise Wrong
    return tuple(parts), text[1:]


def expressions(text, between):
    """The expressions of a text with these texts between them, all of it."""
    found = []
    for part in (*between, ""):
        told, text = expression(text)
        found.append(told)
        if not text.startswith(part):
            raise Wrong
        text = text[len(part):]
    if text:
        raise Wrong
    return tuple(found)


def deeds(lines, ahead=""):
    """The deeds of lines, which are taken out of the list, as long as they have such blanks ahead."""
    found = []
    while lines and lines[0].startswith(ahead) and lines[0][len(ahead):] not in ("else", "end"):
        if lines[0].startswith(ahead + " "):
            break
        line = lines.pop(0)[len(ahead):]
        name = line.split(" ")[0]
        if name in ("own", "mark"):
            at, told = match(name + r" (\S+) = (.*)", line)
            found.append((name, number(at), *expressions(told, ())))
        elif name == "go":
            found.append(("go", *expressions(line[3:], (" ",))))
        elif name == "born":
            kind, told = match(r"born (\S+) at (.*)", line)
            found.append(("born", number(kind), *expressions(told, (" ", " by ", " "))))
        elif line == "gone":
            found.append(("gone",))
        elif name == "when":
            asked = expressions(line[5:], ())
            firsts, others = deeds(lines, ahead + "  "), ()
            if lines and lines[0] == ahead + "else":
                lines.pop(0)
                others = deeds(lines, ahead + "  ")
            if not lines or lines.pop(0) != ahead + "end":
                raise Wrong
            found.append(("when", *asked, firsts, others))
        else:
            raise Wrong
    return tuple(found)


def script(text):
    if len(text) > 20000 or re.search(r"\({20}", text.replace(" ", "")) or text.count("(") > 400:
        raise Wrong
    lines = text.split("\n") if text else []
    told = deeds(lines)
    if lines or not is_script(told) or show_script(told) != text:
        raise Wrong
    return told


def rows(text, marks=True):
    if "?" in text and not marks:
        raise Wrong
    told = () if text == "-" else tuple(
        tuple(None if sign == "?" else number(sign) for sign in word.split(",")) for word in text.split(" "))
    flat = [press for presses in told for press in presses if press is not None]
    if len({len(presses) for presses in told}) > 1 or not all(0 <= press <= 63 for press in flat):
        raise Wrong
    if told and len(told[0]) > 4 or show_rows(told) != text:
        raise Wrong
    return told


def letter(text):
    house, first, ends, row, heard = match(r"(\S*) (\S*) (\S*) (\S*) (\S*)", text)
    told = (number(house), number(first), () if row == "-" else numbers(row, ","),
            None if ends == "-" else number(ends), numbers(heard, ","))
    if not is_letter(told) or not 1 <= len(told[4]) <= 4 or show_letter(told) != text:
        raise Wrong
    return told


def world(game, text):
    cells = [None] * 16 + [()] * 16 + [None] + [0] * 16
    for line in text.split("\n"):
        name, at, told = match(r"(slot|met|mark|seed)(?: ([0-9]{1,2}):)? (.*)", line)
        told = numbers(told)
        at = 0 if name == "seed" else int(at or 99)
        if at > 15:
            raise Wrong
        if name == "slot":
            cells[at] = told[:7] + (told[7:],)
        elif name == "met":
            cells[16 + at] = told
        else:
            cells[(33 if name == "mark" else 32) + at] = told[0]
    empty = first_world(((game[0][0], (), game[0][2], game[0][3]), game[1]), 0)
    told = empty
    for slot in range(16):
        try:
            told = told if cells[slot] is None else with_thing(game, told, slot, cells[slot])
        except ValueError:
            raise Wrong from None
    told = tuple(cells) + told[49:]
    if not is_world(game, told) or show_world(told) != text:
        raise Wrong
    return told


def paper(game, text):
    ahead, line, behind = match(r"(?s)(.*?)\nrows ([^\n]*)(.*)", text)
    marks = []
    for row in behind.split("\n")[1:]:
        at, told = match(r"sum (\S*) (\S*)", row)
        marks.append((number(at), number(told, 19)))
    told = (world(game, ahead), rows(line, False), tuple(marks))
    if not is_paper(told) or show_paper(told) != text:
        raise Wrong
    return told


def game(text):
    head, *lines = text.split("\n")
    houses, pull = match(r"houses (\S*) pull (\S*)", head)
    floor, starts, kinds = [], [], []
    while lines and lines[0].startswith("|"):
        floor.append(lines.pop(0)[1:])
    while lines and lines[0].startswith("start"):
        starts.append(numbers(match(r"start (.*)", lines.pop(0))[0]))
    while lines:
        name, wide, high, traits, own = match(r"kind (\S*) (\S*) (\S*) (\S*) (.*)", lines.pop(0))
        rules = []
        while lines and lines[0] != "end":
            rules.append(match(r"  (.*)", lines.pop(0))[0])
        if not lines:
            raise Wrong
        lines.pop(0)
        kinds.append((name, number(wide), number(high), () if traits == "-" else tuple(traits.split(",")),
                      numbers(own), script("\n".join(rules)) if rules else ()))
    told = ((tuple(floor), tuple(starts), number(houses), number(pull)), tuple(kinds))
    if not is_game(told) or show_game(told) != text:
        raise Wrong
    return told


def script_ends(ahead=""):
    """What can end a script that is begun rightly, as texts that begin with a newline, or are empty."""
    for deep in range(9):
        ends = "".join("\n" + ahead + "  " * at + "end" for at in range(deep - 1, -1, -1))
        yield ends
        yield "\n" + ahead + "  " * deep + "gone" + ends


def game_ends(text):
    """What can end a game that is begun rightly."""
    lines = text.split("\n")
    floor = [line for line in lines if line.startswith("|")]
    many = len([line for line in lines if line.startswith("kind ")])
    more = "".join("\n" + (floor[-1] if floor else "|....") for _ in range(3 - len(floor)))
    kinds = "".join(f"\nkind {'zyxwvuts'[at]}qqqq 1 1 - 0 0 0 0\nend" for at in range(8 - many))
    yield kinds if many else more + kinds
    if many:
        for ends in script_ends("  "):
            yield ends + "\nend" + kinds


def one_line_ends():
    yield ""


def world_ends():
    yield from ("", "\nseed 0")


def paper_ends():
    yield from ("", "\nrows -", "\nseed 0\nrows -")


def is_right(read, text):
    try:
        read(text)
    except Wrong:
        return False
    return True


def first_wrong_line(read, ends, text):
    """The number that Unreadable holds for a text that is not right."""
    lines = text.split("\n")
    for many in range(1, len(lines) + 1):
        begun = "\n".join(lines[:many])
        told = ends(begun) if ends is game_ends else ends()
        if not any(is_right(read, begun + end) for end in told):
            return many
    return len(lines) + 1
