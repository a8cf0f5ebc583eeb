"""The kinds that an expression, and each expression in it, has for told names."""

from chancepoints.kinds import is_kind
from chancepoints.nodes import binds_at, steps_and_parts


def _bound_kind(expression, kinds):
    """The kind of what the expression binds, kinds being those of its parts ahead."""
    if expression[0] == "fun":
        return expression[2]
    taken = kinds[0]
    if taken is None or taken[0] != "num":
        return None
    return taken


def _kind_of_fun(argument, body):
    if body is None:
        return None
    made = ("to", argument, body)
    # A function of more than 12 nums has no kind at all.
    if not is_kind(made):
        return None
    return made


def _kind_of_call(called, given):
    if called is None or called[0] != "to" or called[1] != given:
        return None
    return called[2]


def _kind_of_case(asked, kinds):
    if asked != ("num", len(kinds)) or not all([kind == kinds[0] for kind in kinds]):
        return None
    return kinds[0]


def _kind_of_take(taken, body):
    if taken is None or taken[0] != "num":
        return None
    return body


def _kind_by_parts(expression, kinds):
    """The kind of what is no name, kinds being those of its parts."""
    word = expression[0]
    if word == "number":
        return ("num", expression[2])
    if word == "fun":
        return _kind_of_fun(expression[2], kinds[0])
    if word == "call":
        return _kind_of_call(kinds[0], kinds[1])
    if word == "case":
        return _kind_of_case(kinds[0], kinds[1:])
    if word == "draw":
        return ("num", len(expression[1]))
    if word == "take":
        return _kind_of_take(kinds[0], kinds[1])
    return expression[1]


def _note_kinds(expression, names, path, found):
    """Put into found the kinds of the expression and of all in it; path leads to it."""
    kinds = []
    for steps, part in steps_and_parts(expression):
        around = names
        if binds_at(expression, steps):
            around = {**names, expression[1]: _bound_kind(expression, kinds)}
        kinds.append(_note_kinds(part, around, path + steps, found))
    if expression[0] == "name":
        kind = names.get(expression[1])
    else:
        kind = _kind_by_parts(expression, kinds)
    found[path] = kind
    return kind


def kinds_in(expression, names):
    """The dict from all paths to the kinds of what is there, None for what has none.

    names is a dict from the free names that stand for something to their kinds.
    """
    found = {}
    _note_kinds(expression, names, (), found)
    return found


def kind_for(expression, names):
    """The kind that an expression has for a dict of names; None if it has none."""
    return kinds_in(expression, names)[()]
