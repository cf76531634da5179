"""Worlds that are kept of a run, so that others are run from them."""

from latepresses.checks import need_run
from latepresses.engine import last_world, worlds_behind
from latepresses.errors import InvalidNumber, InvalidPlan
from latepresses.plain import ascends


def cost(plan, tick):
    """Returns how many ticks are run from the newest kept world until that behind a tick."""
    _need_plan(plan)
    if tick < 0:
        raise InvalidNumber(tick)
    return tick - plan[_newest(plan, tick)]


def total(plan, weights):
    """Returns the sum of the costs of all ticks, each so often as its weight says."""
    _need_plan(plan)
    _need_weights(weights)
    return sum([weight * (tick - plan[_newest(plan, tick)]) for tick, weight in enumerate(weights)])


def best_plan(weights, room):
    """Returns the first plan, as tuples compare, of the least total, of at most so many kept worlds."""
    _need_room(room)
    _need_weights(weights)
    many = len(weights)
    costs = [_costs_from(weights, begin) for begin in range(many)]
    # For each tick (total, plan): the best of the ticks from there on, if this one is kept.
    best = [(costs[begin][many], (begin,)) for begin in range(many)]
    for _ in range(min(room, many) - 1):
        best = [_better(costs[begin], best, begin) for begin in range(many)]
    return best[0][1]


def _costs_from(weights, begin):
    """Returns the list, by each tick behind, of the total of the ticks from one kept world on to there."""
    costs = [0] * (begin + 1)
    for tick in range(begin, len(weights)):
        costs.append(costs[-1] + weights[tick] * (tick - begin))
    return costs


def _better(costs, best, begin):
    """Returns the best (total, plan) from a kept tick on, with one kept world more than those told for each tick."""
    plans = [(costs[tick] + best[tick][0], (begin,) + best[tick][1]) for tick in range(begin + 1, len(best))]
    return min([best[begin]] + plans)


def best_worst(many, room):
    """Returns (greatest, plan): the least greatest cost of ticks below many, and the first such plan."""
    _need_room(room)
    if many < 1:
        raise InvalidNumber(many)
    # A kept world serves at most so many ticks, its own one first.
    stretch = (many + room - 1) // room
    plan = [0]
    while plan[-1] + stretch < many:
        left = room - len(plan)
        plan.append(max(plan[-1] + 1, many - left * stretch))
    return (stretch - 1, tuple(plan))


def worlds_kept(game, world, rows, plan):
    """Returns the tuple of (tick, world) of a plan."""
    _need_plan(plan)
    if plan[-1] > len(rows):
        raise InvalidPlan(plan)
    need_run(game, world, rows)
    worlds = worlds_behind(game, world, rows[:plan[-1]])
    return tuple([(tick, worlds[tick]) for tick in plan])


def world_at(game, kept, rows, tick):
    """Returns the world behind a tick, run from the newest kept one."""
    plan = tuple([number for number, _ in kept])
    _need_plan(plan)
    if tick < 0 or tick > len(rows):
        raise InvalidNumber(tick)
    number, world = kept[_newest(plan, tick)]
    need_run(game, world, rows)
    return last_world(game, world, rows[number:tick])


def _newest(plan, tick):
    """Returns the place in a plan of the newest kept world that is not behind a tick."""
    return len([number for number in plan if number <= tick]) - 1


def _need_plan(plan):
    """Raises InvalidPlan if this is no plan."""
    if plan == () or plan[0] != 0 or not ascends(plan):
        raise InvalidPlan(plan)


def _need_room(room):
    """Raises InvalidNumber if there is room for no world."""
    if room < 1:
        raise InvalidNumber(room)


def _need_weights(weights):
    """Raises InvalidNumber for the first weight below 0."""
    for weight in weights:
        if weight < 0:
            raise InvalidNumber(weight)
