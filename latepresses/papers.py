"""Papers: what is written down of a play, with sums by which it can be judged."""

from latepresses.checks import is_press
from latepresses.errors import InvalidNumber
from latepresses.guessing import guess_rows
from latepresses.plain import ascends, is_between, is_whole
from latepresses.sums import thing_sum

MOST_HOUSES = 4


def paper_of(play, every):
    """Returns the paper of the ticks of a play to which all are sure, with a sum at each so many ticks."""
    if every < 1:
        raise InvalidNumber(every)
    end = play.sure_all()
    worlds = play.plain_worlds(end)
    ticks = [tick for tick in range(end + 1) if tick == end or tick % every == 0]
    marks = tuple([(tick, thing_sum(worlds[tick])) for tick in ticks])
    return (worlds[0], guess_rows(play.made, end), marks)


def is_paper(told):
    """Returns True if a tuple is a paper, whatever its world is."""
    if not isinstance(told, tuple) or len(told) != 3:
        return False
    world, rows, marks = told
    if not isinstance(world, tuple) or not isinstance(rows, tuple) or not isinstance(marks, tuple):
        return False
    if not all([_are_presses(presses) and len(presses) == len(rows[0]) for presses in rows]):
        return False
    return all([_is_mark(mark, len(rows)) for mark in marks]) and ascends([mark[0] for mark in marks])


def _are_presses(told):
    """Returns True if these are presses of a tick."""
    if not isinstance(told, tuple) or not is_between(len(told), 1, MOST_HOUSES):
        return False
    return all([is_press(press) for press in told])


def _is_mark(told, end):
    """Returns True if this is (tick, sum), with a tick to the end."""
    if not isinstance(told, tuple) or len(told) != 2:
        return False
    return is_between(told[0], 0, end) and is_whole(told[1])
