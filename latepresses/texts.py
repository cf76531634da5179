"""Texts of scripts, presses, worlds, games, letters and papers."""

from latepresses.limits import MARK, MARKS, MET, SEED, SLOTS

INDENT = "  "


def show_expression(expression):
    """Returns the text of an expression."""
    if expression[0] == "number":
        return str(expression[1])
    parts = [show_expression(part) if isinstance(part, tuple) else str(part) for part in expression]
    return "(" + " ".join(parts) + ")"


def show_script(script):
    """Returns the text of a script, a deed on each line."""
    return "\n".join(_lines_of_deeds(script, ""))


def _lines_of_deeds(deeds, ahead):
    """Returns the list of the lines of deeds, with some blanks ahead."""
    lines = []
    for deed in deeds:
        lines.append(ahead + show_deed(deed))
        if deed[0] == "when":
            lines.extend(_lines_of_deeds(deed[2], ahead + INDENT))
            if deed[3] != ():
                lines.append(ahead + "else")
                lines.extend(_lines_of_deeds(deed[3], ahead + INDENT))
            lines.append(ahead + "end")
    return lines


def show_deed(deed):
    """Returns the line of a deed, of a "when" just the first one."""
    name = deed[0]
    parts = [show_expression(part) for part in deed if isinstance(part, tuple) and name != "when"]
    if name == "own" or name == "mark":
        return f"{name} {deed[1]} = {parts[0]}"
    if name == "go":
        return f"go {parts[0]} {parts[1]}"
    if name == "born":
        return f"born {deed[1]} at {parts[0]} {parts[1]} by {parts[2]} {parts[3]}"
    if name == "when":
        return "when " + show_expression(deed[1])
    return name


def show_rows(rows):
    """Returns the text of the presses of ticks."""
    if rows == ():
        return "-"
    return " ".join([",".join(["?" if press is None else str(press) for press in presses]) for presses in rows])


def _joined(numbers, between):
    """Returns the text of numbers with something between them."""
    return between.join([str(number) for number in numbers])


def show_world(world):
    """Returns the text of a world, without its buckets."""
    return "\n".join(_lines_of_world(world))


def _lines_of_world(world):
    """Returns the list of the lines of a world."""
    lines = []
    for slot, thing in enumerate(world[:SLOTS]):
        if thing is not None:
            lines.append(f"slot {slot}: " + _joined(thing[:7] + thing[7], " "))
    for slot, met in enumerate(world[MET:MET + SLOTS]):
        if met != ():
            lines.append(f"met {slot}: " + _joined(met, " "))
    lines.append(f"seed {world[SEED]}")
    for mark, number in enumerate(world[MARK:MARK + MARKS]):
        if number != 0:
            lines.append(f"mark {mark}: {number}")
    return lines


def show_game(game):
    """Returns the text of a game."""
    (rows, starts, houses, pull), kinds = game
    lines = [f"houses {houses} pull {pull}"]
    lines.extend(["|" + row for row in rows])
    lines.extend(["start " + _joined(start, " ") for start in starts])
    for kind in kinds:
        lines.append(show_kind(kind))
        lines.extend(_lines_of_deeds(kind[5], INDENT))
        lines.append("end")
    return "\n".join(lines)


def show_kind(kind):
    """Returns the first line of a kind, without its script."""
    name, wide, high, traits, own, _ = kind
    shown = "-" if traits == () else ",".join(traits)
    return f"kind {name} {wide} {high} {shown} " + _joined(own, " ")


def show_letter(letter):
    """Returns the text of a letter."""
    house, first, row, ends, heard = letter
    shown_ends = "-" if ends is None else str(ends)
    shown_row = "-" if row == () else _joined(row, ",")
    return f"{house} {first} {shown_ends} {shown_row} " + _joined(heard, ",")


def show_paper(paper):
    """Returns the text of a paper."""
    world, rows, marks = paper
    lines = _lines_of_world(world)
    lines.append("rows " + show_rows(rows))
    lines.extend([f"sum {tick} {number}" for tick, number in marks])
    return "\n".join(lines)
