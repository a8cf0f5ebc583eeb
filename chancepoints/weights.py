"""Weights: fractions that are told by a top and a bottom."""

from math import gcd

from chancepoints.errors import BadNumber, BadWeight
from chancepoints.judging import is_list, is_tuple_of, is_whole

NOTHING = (0, 1)
ALL = (1, 1)


def is_weight(value):
    """Whether any value is a weight, of any sign."""
    if not is_tuple_of(value, 2):
        return False
    top, bottom = value
    return is_whole(top) and is_whole(bottom) and bottom >= 1 and gcd(top, bottom) == 1


def is_chance_part(value):
    """Whether any value is a weight from nothing on."""
    return is_weight(value) and value[0] >= 0


def shortened(top, bottom):
    """The weight that is top by bottom, two wholes, bottom not 0."""
    common = gcd(top, bottom)
    if bottom < 0:
        common = -common
    return (top // common, bottom // common)


def added(one, other):
    """The sum of two values that are surely weights."""
    return shortened(one[0] * other[1] + other[0] * one[1], one[1] * other[1])


def multiplied(one, other):
    """The product of two values that are surely weights."""
    return shortened(one[0] * other[0], one[1] * other[1])


def subtracted(one, other):
    """One less the other; both are surely weights."""
    return added(one, (-other[0], other[1]))


def divided(one, other):
    """One by the other one, which is not nothing; both are surely weights."""
    return shortened(one[0] * other[1], one[1] * other[0])


def lies_below(one, other):
    """Whether one is below other; both are surely weights."""
    return one[0] * other[1] < other[0] * one[1]


def total(weights):
    """The sum of a list of values that are surely weights."""
    whole = NOTHING
    for part in weights:
        whole = added(whole, part)
    return whole


def weight(top, bottom=1):
    """The weight that is top by bottom."""
    if not is_whole(top):
        raise BadNumber("the top is no whole")
    if not is_whole(bottom) or bottom == 0:
        raise BadNumber("the bottom is no whole unlike 0")
    return shortened(top, bottom)


def _check_both(one, other):
    if not is_weight(one):
        raise BadWeight("the first value is no weight")
    if not is_weight(other):
        raise BadWeight("the second value is no weight")


def plus(one, other):
    """The sum of two weights."""
    _check_both(one, other)
    return added(one, other)


def times(one, other):
    """The product of two weights."""
    _check_both(one, other)
    return multiplied(one, other)


def less(one, other):
    """One weight less the other."""
    _check_both(one, other)
    return subtracted(one, other)


def is_below(one, other):
    """Whether the first weight is below the second one."""
    _check_both(one, other)
    return lies_below(one, other)


def summed(weights):
    """The sum of a list of weights."""
    if not is_list(weights) or not all([is_weight(part) for part in weights]):
        raise BadWeight("no list of weights")
    return total(weights)
