"""What can come of presses that nobody has told yet."""

from latepresses.cells import cells_of
from latepresses.checks import is_press, need_world
from latepresses.engine import tick_done
from latepresses.errors import InvalidCell, InvalidMenu, InvalidPress, InvalidRows
from latepresses.limits import MOST_PRESS
from latepresses.plain import ascends, is_between, is_row


def open_places(rows):
    """Returns the ascending tuple of the (tick, house) whose press is not told."""
    _need_rows(rows)
    return _untold(rows)


def filled(rows, presses):
    """Returns the rows with these presses put where none is told, in this order."""
    _need_rows(rows)
    places = _untold(rows)
    if len(places) != len(presses):
        raise InvalidRows((len(places), len(presses)))
    put = list(presses)
    whole = []
    for row in rows:
        many = row.count(None)
        whole.append(_row_filled(row, put[:many]))
        put = put[many:]
    return tuple(whole)


def outcomes(game, world, rows, menu, cell):
    """Returns the list of the values that a cell can have behind all ticks."""
    found = []
    for value in _values(game, world, rows, menu, cell):
        if value not in found:
            found.append(value)
    return found


def hangs_on(game, world, rows, menu, cell):
    """Returns the ascending tuple of the untold places that can change a cell alone."""
    values = _values(game, world, rows, menu, cell)
    return tuple(_changing(values, _untold(rows), len(menu)))


def is_sure(game, world, rows, menu, cell):
    """Returns True if a cell can have one value alone behind all ticks."""
    values = _values(game, world, rows, menu, cell)
    return all([value == values[0] for value in values])


def parting(game, world, rows, menu, cell):
    """Returns the first filling, and the first one that gives a cell another value; None if there is none."""
    values = _values(game, world, rows, menu, cell)
    for number, value in enumerate(values):
        if value != values[0]:
            fillings = _fillings(menu, len(_untold(rows)))
            return (fillings[0], fillings[number])
    return None


def islands(game, world, rows, menu):
    """Returns the ascending list of the lists of untold places that hang together by cells."""
    _need_all(game, world, rows, menu)
    places = _untold(rows)
    worlds = _last_worlds(game, world, rows, menu)
    groups = [[place] for place in places]
    for cell in range(len(world)):
        hung = _changing([told[cell] for told in worlds], places, len(menu))
        groups = _joined(groups, hung)
    return sorted(groups)


def _joined(groups, places):
    """Returns the list of the groups, those that have one of these places being one."""
    apart = []
    together = []
    for group in groups:
        if any([place in places for place in group]):
            together.extend(group)
        else:
            apart.append(group)
    if together:
        apart.append(sorted(together))
    return apart


def _need_rows(rows):
    """Raises InvalidPress for the first row in which something is neither a press nor None."""
    for row in rows:
        if not all([press is None or is_press(press) for press in row]):
            raise InvalidPress(row)


def _need_all(game, world, rows, menu):
    """Raises the error of what is not right."""
    need_world(game, world)
    for row in rows:
        _need_rows((row,))
        if len(row) != game[0][2]:
            raise InvalidPress(row)
    if not is_row(menu, 0, MOST_PRESS) or menu == () or not ascends(menu):
        raise InvalidMenu(menu)


def _untold(rows):
    """Returns the ascending tuple of the (tick, house) whose press is None."""
    return tuple([(number, house) for number, row in enumerate(rows) for house, press in enumerate(row)
                  if press is None])


def _row_filled(row, presses):
    """Returns a row with these presses put where there is None."""
    whole = []
    at = 0
    for press in row:
        if press is None:
            whole.append(presses[at])
            at += 1
        else:
            whole.append(press)
    return tuple(whole)


def _fillings(menu, many):
    """Returns the list of the tuples of so many presses of a menu, as tuples compare."""
    told = [()]
    for _ in range(many):
        told = [presses + (press,) for presses in told for press in menu]
    return told


def _last_worlds(game, world, rows, menu):
    """Returns the list of the worlds behind all ticks, one for each filling, as these compare."""
    worlds = [world]
    for row in rows:
        choices = [_row_filled(row, presses) for presses in _fillings(menu, row.count(None))]
        # Many fillings lead to one world, from which a tick is done but once.
        newer = {}
        for ahead in worlds:
            if ahead not in newer:
                newer[ahead] = [tick_done(game, ahead, presses) for presses in choices]
        worlds = [told for one in worlds for told in newer[one]]
    return worlds


def _values(game, world, rows, menu, cell):
    """Returns the list of the values of a cell behind all ticks, one for each filling, as these compare."""
    _need_all(game, world, rows, menu)
    if not is_between(cell, 0, cells_of(game) - 1):
        raise InvalidCell(cell)
    return [told[cell] for told in _last_worlds(game, world, rows, menu)]


def _changing(values, places, choices):
    """Returns the list of the places at which another press alone leads to another value."""
    found = []
    weight = len(values)
    for place in places:
        stretch = weight
        weight = weight // choices
        # The first filling of each stretch has the first press of the menu at this place.
        firsts = [number - number % stretch + number % weight for number in range(len(values))]
        if any([values[number] != values[first] for number, first in enumerate(firsts)]):
            found.append(place)
    return found
