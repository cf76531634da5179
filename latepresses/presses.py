"""What is known of the presses of houses, and what is guessed."""

from latepresses.checks import is_press
from latepresses.errors import Clash, InvalidKnown, InvalidPress, InvalidTick
from latepresses.plain import ascends, is_whole


def is_known(told):
    """Returns True if (row, ends) is what can be known of a house."""
    if not isinstance(told, tuple) or len(told) != 2:
        return False
    row, ends = told
    if not isinstance(row, tuple) or not (ends is None or _is_tick(ends)):
        return False
    return all([_is_made(made, ends) for made in row]) and ascends([made[0] for made in row])


def _is_made(made, ends):
    """Returns True if this is (tick, press), ahead of the end."""
    if not isinstance(made, tuple) or len(made) != 2 or not _is_tick(made[0]):
        return False
    return is_press(made[1]) and (ends is None or made[0] < ends)


def _is_tick(told):
    """Returns True if this is a tick."""
    return is_whole(told) and told >= 0


def known_to(known):
    """Returns the least tick that is not known, None if there is none."""
    _need_known((known,))
    return _known_to(known)


def _known_to(known):
    """Returns the least tick that is not in what is right known."""
    row, ends = known
    many = 0
    for tick, _ in row:
        if tick == many:
            many += 1
    return None if many == ends else many


def is_known_at(known, tick):
    """Returns True if a tick is known."""
    _need_known((known,))
    _need_tick(tick)
    row, ends = known
    return _is_behind(tick, ends) or any([made == tick for made, _ in row])


def _is_behind(tick, ends):
    """Returns True if a house has left at a tick."""
    return ends is not None and tick >= ends


def guess_at(known, tick):
    """Returns the press that is guessed at a tick."""
    _need_known((known,))
    _need_tick(tick)
    return _guess_at(known, tick)


def _guess_at(known, tick):
    """Returns the guess by what is right known."""
    row, ends = known
    if _is_behind(tick, ends):
        return 0
    guess = 0
    for made, press in row:
        if made <= tick:
            guess = press
    return guess


def learned(known, first, row, ends):
    """Returns what is known with the presses of a letter, too."""
    _need_known((known,))
    for press in row:
        if not is_press(press):
            raise InvalidPress(press)
    _need_tick(first)
    if ends is not None:
        _need_tick(ends)
    presses = {tick: press for tick, press in known[0]}
    clashes = _ends_that_clash(known[1], ends)
    for tick, press in enumerate(row, start=first):
        if presses.setdefault(tick, press) != press:
            clashes.append(tick)
    end = ends if known[1] is None else known[1]
    clashes.extend([tick for tick in presses if _is_behind(tick, end) and presses[tick] != 0])
    if clashes:
        raise Clash(min(clashes))
    return (tuple([(tick, presses[tick]) for tick in sorted(presses) if not _is_behind(tick, end)]), end)


def _ends_that_clash(one, other):
    """Returns the list of the lesser one of two ends that differ, of none if they do not."""
    if one is None or other is None or one == other:
        return []
    return [min(one, other)]


def guesses(knowns, tick):
    """Returns the tuple of the guesses at a tick, one a house."""
    _need_known(knowns)
    _need_tick(tick)
    return _guesses(knowns, tick)


def _guesses(knowns, tick):
    """Returns the tuple of the guesses at a tick by what is right known."""
    return tuple([_guess_at(known, tick) for known in knowns])


def guessed_rows(knowns, end):
    """Returns the tuple of the guesses of all ticks below an end."""
    _need_known(knowns)
    _need_tick(end)
    return tuple([_guesses(knowns, tick) for tick in range(end)])


def sure_to(knowns):
    """Returns the least tick that is not known of all, None if there is none."""
    _need_known(knowns)
    ticks = [_known_to(known) for known in knowns]
    return min([tick for tick in ticks if tick is not None], default=None)


def first_unlike(elder, newer, begin, end):
    """Returns the first tick from begin on, below end, with other guesses by the one than by the other; or None."""
    _need_known(elder)
    _need_known(newer)
    _need_tick(begin)
    _need_tick(end)
    for tick in range(begin, end):
        if _guesses(elder, tick) != _guesses(newer, tick):
            return tick
    return None


def _need_known(knowns):
    """Raises InvalidKnown for the first that can not be known of a house."""
    for known in knowns:
        if not is_known(known):
            raise InvalidKnown(known)


def _need_tick(tick):
    """Raises InvalidTick if a tick is below 0."""
    if tick < 0:
        raise InvalidTick(tick)
