"""Texts of weights that are only begun: whether they can be gone on with."""

from math import gcd

from chancepoints.weights import NOTHING, is_weight, lies_below

MOST_DIGITS = 80
DIGITS = "0123456789"
# Of so many wholes one behind the other, one at least has no common divisor with a whole of 80
# digits, which has fewer than 60 prime divisors.
LONG_ROW = 3000


def _is_whole_text(word):
    """Whether a word is the text of a whole of at most 80 digits."""
    if not 1 <= len(word) <= MOST_DIGITS or not all([sign in DIGITS for sign in word]):
        return False
    return word == "0" or word[0] != "0"


def told_weight(word, left):
    """The weight, up to what is left, whose text a word is; None if it is none."""
    top, slash, bottom = word.partition("/")
    if not _is_whole_text(top) or slash and (not _is_whole_text(bottom) or bottom in ("0", "1")):
        return None
    told = (int(top), int(bottom) if slash else 1)
    if not is_weight(told) or lies_below(left, told):
        return None
    return told


def _bottom_from(top, low, high):
    """A whole from low to high without a common divisor with top; None if there is none."""
    for bottom in range(low, min(high, low + LONG_ROW) + 1):
        if gcd(top, bottom) == 1:
            return bottom
    return None


def _least_bottom(top, left):
    """The least bottom above 1 with which a weight with this top is up to what is left."""
    return max(2, -(-top * left[1] // left[0]))


def _ending(top, begun, left):
    """What may stand behind a begun bottom, so that a weight comes; None if there is nothing."""
    least = _least_bottom(top, left)
    for more in range(MOST_DIGITS - len(begun) + 1):
        low, high = _range_behind(begun, more)
        found = _bottom_from(top, max(low, least), high)
        if found is not None:
            return str(found)[len(begun):]
    return None


def _range_behind(begun, more):
    """The pair of the least and greatest whole with these digits and so many more."""
    if begun == "" and more == 0:
        return 1, 0
    if begun == "":
        return int("1" + "0" * (more - 1)), int("9" * more)
    return int(begun + "0" * more), int(begun + "9" * more)


def rest_of_weight(word, left):
    """What may stand behind a begun text of a weight up to what is left; None if there is nothing."""
    if word == "":
        return "0"
    if told_weight(word, left) is not None:
        return ""
    top, slash, bottom = word.partition("/")
    if not _is_whole_text(top) or top == "0" or left == NOTHING:
        return None
    if bottom != "" and (not _is_whole_text(bottom) or bottom == "0"):
        return None
    ending = _ending(int(top), bottom, left)
    if ending is None:
        return None
    return ending if slash else "/" + ending
