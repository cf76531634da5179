"""What right knowns of houses tell: to where they are known, and which presses are guessed."""

from latepresses.errors import Clash


def known_end(known):
    """Returns the least tick that is not known of a house, None if there is none."""
    row, ends = known
    many = 0
    for tick, _ in row:
        if tick == many:
            many += 1
    return None if many == ends else many


def least_end(knowns):
    """Returns the least tick that is not known of all houses, None if there is none."""
    ticks = [known_end(known) for known in knowns]
    return min([tick for tick in ticks if tick is not None], default=None)


def is_behind(tick, ends):
    """Returns True if a house has left at a tick."""
    return ends is not None and tick >= ends


def guess_of(known, tick):
    """Returns the press of a house that is guessed at a tick."""
    row, ends = known
    if is_behind(tick, ends):
        return 0
    guess = 0
    for made, press in row:
        if made <= tick:
            guess = press
    return guess


def guess_row(known, end):
    """Returns the list of the presses of a house that are guessed at all ticks below an end."""
    row, ends = known
    presses = {tick: press for tick, press in row}
    guesses = []
    guess = 0
    for tick in range(end):
        guess = 0 if is_behind(tick, ends) else presses.get(tick, guess)
        guesses.append(guess)
    return guesses


def guess_rows(knowns, end):
    """Returns the tuple of the guesses, one a house, of all ticks below an end."""
    columns = [guess_row(known, end) for known in knowns]
    return tuple([tuple([column[tick] for column in columns]) for tick in range(end)])


def first_other_guess(elder, newer, begin, end):
    """Returns the first tick from begin on, below end, with other guesses by the one than by the other; or None."""
    one = guess_rows(elder, end)
    other = guess_rows(newer, end)
    for tick in range(begin, end):
        if one[tick] != other[tick]:
            return tick
    return None


def with_row(known, first, row, ends):
    """Returns what is known with the presses of a right letter, too; raises Clash if one is known otherwise."""
    presses = {tick: press for tick, press in known[0]}
    clashes = _ends_that_clash(known[1], ends)
    for tick, press in enumerate(row, start=first):
        if presses.setdefault(tick, press) != press:
            clashes.append(tick)
    end = ends if known[1] is None else known[1]
    clashes.extend([tick for tick in presses if is_behind(tick, end) and presses[tick] != 0])
    if clashes:
        raise Clash(min(clashes))
    return (tuple([(tick, presses[tick]) for tick in sorted(presses) if not is_behind(tick, end)]), end)


def _ends_that_clash(one, other):
    """Returns the list of the lesser one of two ends that differ, of none if they do not."""
    if one is None or other is None or one == other:
        return []
    return [min(one, other)]
