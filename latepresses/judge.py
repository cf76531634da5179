"""Papers are judged: played again, and compared with their sums and with houses."""

from latepresses.cells import unlike
from latepresses.checks import need_run
from latepresses.engine import last_world, worlds_behind
from latepresses.errors import InvalidPaper
from latepresses.levels import need_game
from latepresses.papers import is_paper
from latepresses.sums import thing_sum


def first_wrong(game, paper):
    """Returns the first tick of the marks of a paper at which the sum is another one, None if there is none."""
    _need_paper(game, paper)
    world, rows, marks = paper
    worlds = worlds_behind(game, world, rows)
    for tick, told in marks:
        if thing_sum(worlds[tick]) != told:
            return tick
    return None


def takes(game, paper):
    """Returns True if no sum of a paper is another one."""
    return first_wrong(game, paper) is None


def agrees(game, paper, house):
    """Returns None if a house has the paper's world at the tick to which it is sure, or the paper does not go so far;
    else (tick, the least cell in which they differ)."""
    _need_paper(game, paper)
    world, rows, _ = paper
    tick = house.sure
    if tick > len(rows):
        return None
    cells = unlike(last_world(game, world, rows[:tick]), house.sure_world)
    return None if cells == () else (tick, cells[0])


def _need_paper(game, paper):
    """Raises the error of a game, a paper, or its world or presses in the game, that is not right."""
    need_game(game)
    if not is_paper(paper):
        raise InvalidPaper(paper)
    need_run(game, paper[0], paper[1])
