"""What kind is wanted of an expression or a kind that is only begun.

A pattern is a pair (most, end): the kinds with so many arguments in front as most has items
behind its first one, which then are end; or any kind, if end is None. Each item of most tells
how many nums there may be at most: in the whole kind, in the kind behind its first argument,
and so on. There is always a kind of a pattern.
"""

from chancepoints.kinds import MOST_NUMBERS, MOST_NUMS

# MOST_NUMS nums at most, and any end.
ANY = ((12,), None)


def nums_of(kind):
    """How many nums stand in what surely is a kind."""
    found = 0
    waiting = [kind]
    while waiting:
        part = waiting.pop()
        if part[0] == "num":
            found += 1
        else:
            waiting.extend(part[1:])
    return found


def just(kind):
    """The pattern of a kind alone."""
    return ((nums_of(kind),), kind)


def _least_end(pattern):
    """The fewest nums of what stands behind the arguments in front."""
    _, end = pattern
    return 1 if end is None else nums_of(end)


def fits(pattern, kind):
    """Whether a kind is one of the pattern."""
    most, end = pattern
    for at, many in enumerate(most):
        if nums_of(kind) > many:
            return False
        if at + 1 == len(most):
            return end is None or kind == end
        if kind[0] == "num":
            return False
        kind = kind[2]
    return False


def numbers_of(pattern):
    """The list of the k for which num k is a kind of the pattern."""
    return [k for k in range(1, MOST_NUMBERS + 1) if fits(pattern, ("num", k))]


def is_of_functions(pattern):
    """Whether some kind of the pattern has an argument."""
    most, end = pattern
    if len(most) > 1:
        return True
    return most[0] > 1 if end is None else end[0] == "to"


def argument(pattern):
    """The pattern of the first arguments of its kinds that have one."""
    most, end = pattern
    if len(most) > 1:
        return ((most[0] - (len(most) - 2) - _least_end(pattern),), None)
    return ((most[0] - 1,), None) if end is None else just(end[1])


def behind(pattern, kind):
    """The pattern of what is left of its kinds with this first argument."""
    most, end = pattern
    left = most[0] - nums_of(kind)
    if len(most) > 1:
        return ((min(most[1], left),) + most[2:], end)
    return ((left,), None) if end is None else just(end[2])


def called(pattern):
    """The pattern of what comes to it if it is handed one thing; None if there is no such kind."""
    most, end = pattern
    if len(most) + _least_end(pattern) > MOST_NUMS:
        return None
    return ((MOST_NUMS,) + most, end)
