"""Code: scripts as rows of things that are done one behind the other."""

from latepresses.codes import is_code, taken_by
from latepresses.errors import InvalidCode, InvalidScript
from latepresses.forms import measured
from latepresses.readings import Reading, do_deed, number_in, number_made, told_by
from latepresses.shortening import shortened_once
from latepresses.trees import grown_script


def compiled(script):
    """Returns the code of a script."""
    _need_script(script)
    return _code_of_deeds(script)


def run(script, reads):
    """Returns what `plain_run` tells of a script, by its code."""
    _need_script(script)
    return _ran(_code_of_deeds(script), reads)[0]


def run_code(code, reads):
    """Returns (what `run` tells, how many things were done) of code."""
    _need_code(code)
    return _ran(code, reads)


def shorter(code):
    """Returns code that does the same, shortened from its first place on as long as it can be."""
    _need_code(code)
    newer = shortened_once(code)
    while newer is not None:
        code = newer
        newer = shortened_once(code)
    return code


def script_of(code):
    """Returns the script of which this is the code, None if there is none."""
    _need_code(code)
    script = grown_script(code)
    if script is None or measured(script) is None or _code_of_deeds(script) != code:
        return None
    return script


def _need_script(script):
    """Raises InvalidScript if a script is none."""
    if measured(script) is None:
        raise InvalidScript(script)


def _need_code(code):
    """Raises InvalidCode if no script can have this code."""
    if not is_code(code):
        raise InvalidCode(code)


def _code_of_deeds(deeds):
    """Returns the code of right deeds."""
    code = ()
    for deed in deeds:
        if deed[0] == "when":
            code += _code_of(deed[1]) + _fork(_code_of_deeds(deed[2]), _code_of_deeds(deed[3]))
        else:
            code += _code_of_parts(deed) + (tuple([part for part in deed if not isinstance(part, tuple)]),)
    return code


def _code_of(expression):
    """Returns the code of a right expression."""
    name = expression[0]
    if name == "number":
        return (("push", expression[1]),)
    if name == "pick":
        return _code_of(expression[1]) + _fork(_code_of(expression[2]), _code_of(expression[3]))
    code = _code_of_parts(expression)
    return code + (("do", name),) if code else (("read", expression),)


def _code_of_parts(told):
    """Returns the code of the expressions right within an expression or a deed, in their order."""
    code = ()
    for part in told:
        if isinstance(part, tuple):
            code += _code_of(part)
    return code


def _fork(one, other):
    """Returns the code of which the one part is done if a number is not 0, else the other."""
    return (("nought", len(one) + 1),) + one + (("over", len(other)),) + other


def _ran(code, reads):
    """Returns (what a run tells, how many things were done) of right code."""
    reading = Reading(reads)
    row = []
    place = 0
    many = 0
    while place < len(code):
        place += 1 + _left_out(code[place], row, reading)
        many += 1
    return (told_by(reading), many)


def _left_out(thing, row, reading):
    """Does a thing of code with a row of numbers, and returns how many things behind it are left out."""
    end = len(row) - taken_by(thing)
    taken = row[end:]
    del row[end:]
    name = thing[0]
    if name == "over":
        return thing[1]
    if name == "nought":
        return thing[1] if taken[0] == 0 else 0
    if name == "push":
        row.append(thing[1])
    elif name == "read":
        row.append(number_in(thing[1], reading))
    elif name == "do":
        row.append(number_made(thing[1], taken))
    else:
        do_deed(thing, taken, reading)
    return 0
