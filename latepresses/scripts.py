"""Scripts: the rules of kinds, done along the tree."""

from latepresses.errors import InvalidScript
from latepresses.forms import is_form_of_expression, measured, wanted_by
from latepresses.readings import Reading, number_in, ran


def is_expression(told):
    """Returns True if a tuple is an expression, of whatever size."""
    return is_form_of_expression(told)


def is_script(told):
    """Returns True if a tuple is a script."""
    return measured(told) is not None


def size_of(script):
    """Returns how many expressions and deeds a script has within."""
    return _measured_script(script)[0]


def depth_of(script):
    """Returns how deep the expressions and deeds of a script stand."""
    return _measured_script(script)[1]


def number_of(expression, reads):
    """Returns (number, seed) of an expression."""
    if not is_expression(expression):
        raise InvalidScript(expression)
    reading = Reading(reads)
    number = number_in(expression, reading)
    return (number, reading.seed)


def plain_run(script, reads):
    """Returns (dx, dy, own, marks, seed, births, gone): what a run tells, done along the tree."""
    _measured_script(script)
    return ran(script, reads)


def wants(script):
    """Returns (marks, seed, met): what a run of a script reads or sets."""
    _measured_script(script)
    return wanted_by(script)


def _measured_script(script):
    """Returns (size, depth) of what has to be a script."""
    size_and_depth = measured(script)
    if size_and_depth is None:
        raise InvalidScript(script)
    return size_and_depth
