"""The eight forms of expressions: which are right, and their parts with the steps to them."""

from chancepoints.judging import is_tuple_of, is_whole, is_within
from chancepoints.kinds import MOST_NUMBERS, is_kind
from chancepoints.weights import ALL, is_chance_part, lies_below, total

KEPT_WORDS = ("call", "case", "draw", "fun", "never", "num", "take", "to")
LETTERS = "abcdefghijklmnopqrstuvwxyz"
MOST_LETTERS = 8
MOST_NODES = 300
MOST_LEVELS = 50


def is_plain_name(value):
    """Whether any value is a name."""
    if not isinstance(value, str) or not 1 <= len(value) <= MOST_LETTERS:
        return False
    return value not in KEPT_WORDS and all([letter in LETTERS for letter in value])


def _is_row(value):
    return isinstance(value, tuple) and 1 <= len(value) <= MOST_NUMBERS


def is_number_of(number, k):
    """Whether k is a whole from 1 to 6, and number one from 0 below k."""
    return is_within(k, 1, MOST_NUMBERS) and is_whole(number) and 0 <= number < k


def _is_weights(value):
    if not _is_row(value) or not all([is_chance_part(part) for part in value]):
        return False
    return not lies_below(ALL, total(value))


def _is_shaped_alone(value):
    """Whether value is an expression without parts."""
    if is_tuple_of(value, 3):
        return value[0] == "number" and is_number_of(value[1], value[2])
    if not is_tuple_of(value, 2):
        return False
    if value[0] == "name":
        return is_plain_name(value[1])
    if value[0] == "draw":
        return _is_weights(value[1])
    return value[0] == "never" and is_kind(value[1])


def _has_parts(value):
    """Whether value is shaped as an expression with parts, whatever stands in their places."""
    if is_tuple_of(value, 3):
        return value[0] == "call" or value[0] == "case" and _is_row(value[2])
    if not is_tuple_of(value, 4):
        return False
    if value[0] == "fun":
        return is_plain_name(value[1]) and is_kind(value[2])
    return value[0] == "take" and is_plain_name(value[1])


def steps_and_parts(expression):
    """The list of pairs of the steps that lead to a part, and this part, in order."""
    word = expression[0]
    if word == "fun":
        return [((3,), expression[3])]
    if word == "call":
        return [((1,), expression[1]), ((2,), expression[2])]
    if word == "case":
        found = [((1,), expression[1])]
        for at, part in enumerate(expression[2]):
            found.append(((2, at), part))
        return found
    if word == "take":
        return [((2,), expression[2]), ((3,), expression[3])]
    return []


def with_parts(expression, parts):
    """The expression with these parts in the places of its own, in order."""
    word = expression[0]
    if word == "fun":
        return ("fun", expression[1], expression[2], parts[0])
    if word == "call":
        return ("call", parts[0], parts[1])
    if word == "case":
        return ("case", parts[0], tuple(parts[1:]))
    if word == "take":
        return ("take", expression[1], parts[0], parts[1])
    return expression


def binds_at(expression, steps):
    """Whether the expression binds a name in its part behind these steps."""
    return expression[0] in ("fun", "take") and steps == (3,)


def is_shaped(value):
    """Whether any value is an expression."""
    waiting = [(value, 1)]
    nodes = 0
    while waiting:
        part, level = waiting.pop()
        nodes += 1
        if level > MOST_LEVELS or nodes + len(waiting) > MOST_NODES:
            return False
        if _has_parts(part):
            waiting.extend([(inner, level + 1) for _, inner in steps_and_parts(part)])
        elif not _is_shaped_alone(part):
            return False
    return True


def measured(expression):
    """The pair of how many nodes and how many levels what is built as an expression has."""
    waiting = [(expression, 1)]
    nodes = levels = 0
    while waiting:
        part, level = waiting.pop()
        nodes += 1
        levels = max(levels, level)
        waiting.extend([(inner, level + 1) for _, inner in steps_and_parts(part)])
    return nodes, levels


def nth_name(at):
    """The name at this place, from 0, of the row a, b, .., z, aa, ab, .., az, ba, .., zz, aaa, ..

    So far on that a kept word would stand in the row, no expression has nodes enough to bind all
    that is ahead; but of what turns out too large, names of any place may be asked for.
    """
    name = ""
    left = at + 1
    while left > 0:
        ahead = (left - 1) // len(LETTERS)
        name = LETTERS[left - 1 - len(LETTERS) * ahead] + name
        left = ahead
    return name
