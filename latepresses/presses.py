"""What is known of the presses of houses, and what is guessed."""

from latepresses.checks import is_press
from latepresses.errors import InvalidKnown, InvalidPress, InvalidTick
from latepresses.guessing import first_other_guess, guess_of, guess_rows, is_behind, known_end, least_end
from latepresses.guessing import with_row
from latepresses.plain import ascends, is_whole


def is_known(told):
    """Returns True if (row, ends) is what can be known of a house."""
    if not isinstance(told, tuple) or len(told) != 2:
        return False
    row, ends = told
    if not isinstance(row, tuple) or not (ends is None or _is_tick(ends)):
        return False
    return all([_is_made(made, ends) for made in row]) and ascends([made[0] for made in row])


def _is_made(made, ends):
    """Returns True if this is (tick, press), ahead of the end."""
    if not isinstance(made, tuple) or len(made) != 2 or not _is_tick(made[0]):
        return False
    return is_press(made[1]) and (ends is None or made[0] < ends)


def _is_tick(told):
    """Returns True if this is a tick."""
    return is_whole(told) and told >= 0


def known_to(known):
    """Returns the least tick that is not known, None if there is none."""
    _need_known((known,))
    return known_end(known)


def is_known_at(known, tick):
    """Returns True if a tick is known."""
    _need_known((known,))
    _need_tick(tick)
    row, ends = known
    return is_behind(tick, ends) or any([made == tick for made, _ in row])


def guess_at(known, tick):
    """Returns the press that is guessed at a tick."""
    _need_known((known,))
    _need_tick(tick)
    return guess_of(known, tick)


def learned(known, first, row, ends):
    """Returns what is known with the presses of a letter, too."""
    _need_known((known,))
    for press in row:
        if not is_press(press):
            raise InvalidPress(press)
    _need_tick(first)
    if ends is not None:
        _need_tick(ends)
    return with_row(known, first, row, ends)


def guesses(knowns, tick):
    """Returns the tuple of the guesses at a tick, one a house."""
    _need_known(knowns)
    _need_tick(tick)
    return tuple([guess_of(known, tick) for known in knowns])


def guessed_rows(knowns, end):
    """Returns the tuple of the guesses of all ticks below an end."""
    _need_known(knowns)
    _need_tick(end)
    return guess_rows(knowns, end)


def sure_to(knowns):
    """Returns the least tick that is not known of all, None if there is none."""
    _need_known(knowns)
    return least_end(knowns)


def first_unlike(elder, newer, begin, end):
    """Returns the first tick from begin on, below end, with other guesses by the one than by the other; or None."""
    _need_known(elder)
    _need_known(newer)
    _need_tick(begin)
    _need_tick(end)
    return first_other_guess(elder, newer, begin, end)


def _need_known(knowns):
    """Raises InvalidKnown for the first that can not be known of a house."""
    for known in knowns:
        if not is_known(known):
            raise InvalidKnown(known)


def _need_tick(tick):
    """Raises InvalidTick if a tick is below 0."""
    if tick < 0:
        raise InvalidTick(tick)
