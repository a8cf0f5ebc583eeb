"""Kinds: of numbers, and of functions of things of kinds."""

from chancepoints.errors import BadKind, BadKinds, BadNumber
from chancepoints.judging import is_list, is_tuple_of, is_within

MOST_NUMBERS = 6
MOST_NUMS = 12


def is_num(value):
    """Whether any value is a kind of a number."""
    return is_tuple_of(value, 2) and value[0] == "num" and is_within(value[1], 1, MOST_NUMBERS)


def _is_to(value):
    return is_tuple_of(value, 3) and value[0] == "to"


def is_kind(value):
    """Whether any value is a kind."""
    waiting = [value]
    nums = 0
    while waiting:
        part = waiting.pop()
        if is_num(part):
            nums += 1
        elif _is_to(part):
            waiting.append(part[1])
            waiting.append(part[2])
        else:
            return False
        # Each part that waits has a num at least; so large values are left early.
        if nums + len(waiting) > MOST_NUMS:
            return False
    return True


def arguments_and_answer(kind):
    """The pair of the tuple of arguments and the answer of what surely is a kind."""
    found = []
    while kind[0] == "to":
        found.append(kind[1])
        kind = kind[2]
    return tuple(found), kind[1]


def check_kind(value):
    """Raise BadKind unless value is a kind."""
    if not is_kind(value):
        raise BadKind("no kind")


def arguments(kind):
    """The tuple of the arguments of a kind."""
    check_kind(kind)
    return arguments_and_answer(kind)[0]


def answer(kind):
    """The answer k of a kind."""
    check_kind(kind)
    return arguments_and_answer(kind)[1]


def kind_from(arguments, answer):
    """The kind with these arguments and this answer."""
    if not is_list(arguments) or not all([is_kind(part) for part in arguments]):
        raise BadKinds("no list of kinds")
    if not is_within(answer, 1, MOST_NUMBERS):
        raise BadNumber("the answer is no whole from 1 to 6")
    # Each argument has a num: too many of them make no kind, however long the list.
    if len(arguments) >= MOST_NUMS:
        raise BadKind("more than 12 nums")
    made = ("num", answer)
    for part in reversed(arguments):
        made = ("to", part, made)
    check_kind(made)
    return made


def order_of(kind):
    """The order of what surely is a kind."""
    found = 0
    for part in arguments_and_answer(kind)[0]:
        found = max(found, order_of(part) + 1)
    return found


def order(kind):
    """0 without arguments, otherwise one more than the greatest order of one."""
    check_kind(kind)
    return order_of(kind)
