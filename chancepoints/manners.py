"""Programs run by three manners: by name, by need and by value."""

from chancepoints.coding import code_of
from chancepoints.errors import BadExpression, BadManner
from chancepoints.kinding import kinds_in
from chancepoints.machine import MANNERS, machine_of
from chancepoints.nodes import is_shaped, nth_name, steps_and_parts, with_parts
from chancepoints.terms import check_program, checked_answers, standing_names
from chancepoints.weights import NOTHING


def _machine_behind(program, manner):
    """A machine that has run the program by this manner."""
    many = checked_answers(program)
    if manner not in MANNERS:
        raise BadManner("none of the three words")
    return machine_of(code_of(program), manner, many, [])


def run_by(program, manner):
    """The tuple of the chances of the numbers of a program that is run by a manner."""
    return tuple([end.get((), NOTHING) for end in _machine_behind(program, manner).ends])


def work_by(program, manner):
    """The dict from the words of rows to how often such rows are done in the mean."""
    return _machine_behind(program, manner).works


def _first_unused(names):
    at = 0
    while nth_name(at) in names:
        at += 1
    return nth_name(at)


def _in_value_form(expression, path, kinds, name):
    """The expression at path in the program that has these kinds, in value form."""
    parts = []
    for steps, part in steps_and_parts(expression):
        parts.append(_in_value_form(part, path + steps, kinds, name))
    if expression[0] != "call" or kinds[path + (2,)][0] != "num":
        return with_parts(expression, parts)
    return ("take", name, parts[1], ("call", parts[0], ("name", name)))


def value_form(program):
    """The program in which each number is taken before it is handed."""
    check_program(program)
    name = _first_unused(standing_names(program))
    made = _in_value_form(program, (), kinds_in(program, {}), name)
    if not is_shaped(made):
        raise BadExpression("too large")
    return made
