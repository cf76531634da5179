"""Letters that houses send one another, and the bag in which they are under way."""

from latepresses.checks import is_press
from latepresses.errors import InvalidHouse, InvalidKnown, InvalidLetter, InvalidPlace, InvalidTick
from latepresses.plain import is_between, is_whole
from latepresses.presses import is_known

MOST_PRESSES = 32
BITS_OF_HOUSE = 8
BITS_OF_TICK = 16
BITS_OF_PRESS = 6
BITS_OF_LENGTH = 6


def is_letter(told):
    """Returns True if it is a letter, whatever houses there are."""
    if not isinstance(told, tuple) or len(told) != 5:
        return False
    house, first, row, ends, heard = told
    if not _is_from_0(house) or not _is_from_0(first) or not isinstance(row, tuple) or len(row) > MOST_PRESSES:
        return False
    if not all([is_press(press) for press in row]):
        return False
    if ends is not None and not (is_whole(ends) and ends >= first + len(row)):
        return False
    return isinstance(heard, tuple) and all([_is_from_0(tick) for tick in heard])


def _is_from_0(told):
    """Returns True if it is an integer from 0 on."""
    return is_whole(told) and told >= 0


def _need_letter(letter):
    """Raises InvalidLetter if this is none."""
    if not is_letter(letter):
        raise InvalidLetter(letter)


def letter(house, known, first, heard):
    """Returns the letter of the presses that are known of a house from a tick on."""
    if house < 0:
        raise InvalidHouse(house)
    if not is_known(known):
        raise InvalidKnown(known)
    if first < 0:
        raise InvalidTick(first)
    return letter_of(house, known, first, heard)


def letter_of(house, known, first, heard):
    """Returns the letter of what is right known of a house from a tick on."""
    presses = {tick: press for tick, press in known[0]}
    row = []
    while first + len(row) in presses and len(row) < MOST_PRESSES:
        row.append(presses[first + len(row)])
    # From a tick behind its ends on there is nothing that a letter could tell: its ends are not below first.
    ends = known[1] if known[1] == first + len(row) else None
    return (house, first, tuple(row), ends, heard)


def put(bag, to, letter):
    """Returns the bag with one letter more at the end."""
    _need_letter(letter)
    if to < 0:
        raise InvalidHouse(to)
    return bag + ((to, letter),)


def taken(bag, k):
    """Returns (what is at a place of the bag, the bag without it)."""
    _need_place(bag, k)
    return (bag[k], bag[:k] + bag[k + 1:])


def doubled(bag, k):
    """Returns the bag with what is at a place of it at the end once more."""
    _need_place(bag, k)
    return bag + (bag[k],)


def _need_place(bag, k):
    """Raises InvalidPlace if the bag has no such place."""
    if not is_between(k, 0, len(bag) - 1):
        raise InvalidPlace(k)


def size_in_bits(letter):
    """Returns how many bits a letter has."""
    _need_letter(letter)
    # Two ticks, first and ends, are told of each letter, and one more of each house heard.
    ticks = 2 + len(letter[4])
    return BITS_OF_HOUSE + BITS_OF_TICK * ticks + BITS_OF_PRESS * len(letter[2]) + BITS_OF_LENGTH
