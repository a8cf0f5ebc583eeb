"""Expressions: their kinds, their names, and what stands where in them."""

from chancepoints.errors import BadExpression, BadKind, BadName, BadNames, BadPath, BadProgram
from chancepoints.judging import is_list, is_tuple_of, is_whole
from chancepoints.kinding import kind_for
from chancepoints.kinds import is_kind
from chancepoints.nodes import binds_at, is_plain_name, is_shaped, steps_and_parts, with_parts


def is_name(value):
    """Whether any value is a name."""
    return is_plain_name(value)


def is_expression(value):
    """Whether any value is an expression."""
    return is_shaped(value)


def check_expression(value):
    """Raise BadExpression unless value is an expression."""
    if not is_shaped(value):
        raise BadExpression("no expression")


def told_names(names):
    """The dict from names to kinds of a list of pairs of them; BadNames if it is none."""
    if not is_list(names):
        raise BadNames("no list")
    found = {}
    for pair in names:
        if not is_tuple_of(pair, 2) or not is_plain_name(pair[0]) or not is_kind(pair[1]):
            raise BadNames("no pair of a name and a kind")
        if pair[0] in found:
            raise BadNames("a name twice")
        found[pair[0]] = pair[1]
    return found


def kind_of(expression, names=()):
    """The kind that the expression has for names, None if it has none."""
    check_expression(expression)
    return kind_for(expression, told_names(names))


def is_program(value):
    """Whether any value is a program."""
    return is_shaped(value) and kind_for(value, {}) is not None


def check_program(value):
    """Raise BadProgram unless value is a program."""
    if not is_program(value):
        raise BadProgram("no program")


def checked_answers(program):
    """To how many numbers a program of a number may come.

    BadProgram is raised unless program is one, BadKind unless its kind is a num.
    """
    check_program(program)
    kind = kind_for(program, {})
    if kind[0] != "num":
        raise BadKind("the program is not of a number")
    return kind[1]


def _note_free(expression, bound, found):
    if expression[0] == "name" and expression[1] not in bound:
        found[expression[1]] = True
    for steps, part in steps_and_parts(expression):
        if binds_at(expression, steps):
            _note_free(part, {**bound, expression[1]: True}, found)
        else:
            _note_free(part, bound, found)


def free_in(expression):
    """The ascending list of the free names of what surely is an expression."""
    found = {}
    _note_free(expression, {}, found)
    return sorted(found)


def free_names(expression):
    """The ascending list of the free names of an expression."""
    check_expression(expression)
    return free_in(expression)


def bound_in(expression):
    """The ascending list of the names that a fun or take in it tells."""
    return sorted({part[1] for _, part in all_parts(expression) if part[0] in ("fun", "take")})


def standing_names(expression):
    """The dict of True by all names that stand in what surely is an expression."""
    found = {}
    waiting = [expression]
    while waiting:
        part = waiting.pop()
        if part[0] in ("name", "fun", "take"):
            found[part[1]] = True
        waiting.extend([inner for _, inner in steps_and_parts(part)])
    return found


def all_parts(expression):
    """The list of pairs of a path and what is there, by ascending paths."""
    found = []
    waiting = [((), expression)]
    while waiting:
        path, part = waiting.pop()
        found.append((path, part))
        waiting.extend([(path + steps, inner) for steps, inner in steps_and_parts(part)])
    return sorted(found, key=lambda pair: pair[0])


def paths(expression):
    """The ascending list of all paths in an expression."""
    check_expression(expression)
    return [path for path, _ in all_parts(expression)]


def _next_towards(expression, path):
    """The pair of the steps with which path begins, and the part there; None if there is none."""
    for steps, part in steps_and_parts(expression):
        if path[:len(steps)] == steps:
            return steps, part
    return None


def chain_to(expression, path):
    """The list of pairs of a path and what is there, from () on to path, each in the one ahead.

    BadPath is raised unless path leads to an expression in this one.
    """
    if not isinstance(path, tuple) or not all([is_whole(step) for step in path]):
        raise BadPath("no tuple of indexes")
    found = [((), expression)]
    while len(found[-1][0]) < len(path):
        at, part = found[-1]
        ahead = _next_towards(part, path[len(at):])
        if ahead is None:
            raise BadPath("the path leads to no expression")
        found.append((at + ahead[0], ahead[1]))
    return found


def part_at(expression, path):
    """The expression to which path leads."""
    check_expression(expression)
    return chain_to(expression, path)[-1][1]


def exchanged_at(expression, path, part):
    """The expression with part in the place to which path surely leads."""
    if path == ():
        return part
    parts = []
    for steps, inner in steps_and_parts(expression):
        if path[:len(steps)] == steps:
            parts.append(exchanged_at(inner, path[len(steps):], part))
        else:
            parts.append(inner)
    return with_parts(expression, parts)


def with_part(expression, path, part):
    """The expression with part in the place to which path leads."""
    check_expression(expression)
    chain_to(expression, path)
    check_expression(part)
    made = exchanged_at(expression, path, part)
    check_expression(made)
    return made


def with_all_free(expression, exchanged):
    """The expression with exchanged[x], of a dict, in the place of each free name x in it.

    No free name of what is exchanged for a name may be bound in expression.
    """
    if expression[0] == "name":
        return exchanged.get(expression[1], expression)
    parts = []
    for steps, inner in steps_and_parts(expression):
        free = exchanged
        if binds_at(expression, steps):
            free = {name: exchanged[name] for name in exchanged if name != expression[1]}
        parts.append(with_all_free(inner, free))
    return with_parts(expression, parts)


def with_free(expression, name, part):
    """The expression with part in the place of each free name."""
    return with_all_free(expression, {name: part})


def renamed(expression, path, name):
    """The expression in which what the fun or take at path binds is called name."""
    check_expression(expression)
    node = chain_to(expression, path)[-1][1]
    if node[0] not in ("fun", "take"):
        raise BadPath("the path leads to no fun and no take")
    if not is_plain_name(name) or name in standing_names(expression):
        raise BadName("no name that stands nowhere in the expression")
    body = with_free(node[3], node[1], ("name", name))
    return exchanged_at(expression, path, (node[0], name, node[2], body))


def _are_same(one, other, names, others, level):
    """Whether both are the same; names and others tell at which level a name is bound."""
    if one[0] != other[0]:
        return False
    if one[0] == "name":
        bound = names.get(one[1])
        return bound == others.get(other[1]) and (bound is not None or one == other)
    inner = steps_and_parts(one)
    if not inner:
        return one == other
    inners = steps_and_parts(other)
    if len(inner) != len(inners) or one[0] == "fun" and one[2] != other[2]:
        return False
    for (steps, part), (_, opposite) in zip(inner, inners):
        around, arounds = names, others
        if binds_at(one, steps):
            around = {**names, one[1]: level}
            arounds = {**others, other[1]: level}
        if not _are_same(part, opposite, around, arounds, level + 1):
            return False
    return True


def same_but_names(one, other):
    """Whether two expressions are the same but for what bound names are called."""
    check_expression(one)
    check_expression(other)
    return _are_same(one, other, {}, {}, 0)
