"""Polynomials of one thing: lists of wholes, the one at each place for this power.

The last whole is unlike 0; the list of none of them is the polynomial that is nothing.
"""

from itertools import accumulate
from math import gcd

# A prime by which rests are told first, since they stay small so.
PRIME = 2305843009213693951


def sign_of(whole):
    """-1, 0 or 1 as a whole is below 0, 0 or above it."""
    if whole == 0:
        return 0
    return 1 if whole > 0 else -1


def raised(whole, many):
    """A whole to a power, a whole from 0 on."""
    found = 1
    square = whole
    while many > 0:
        half = many // 2
        if many > 2 * half:
            found *= square
        many = half
        if many > 0:
            square *= square
    return found


def trimmed(wholes):
    """The polynomial of these wholes, without those behind the last one unlike 0."""
    many = len(wholes)
    while many > 0 and wholes[many - 1] == 0:
        many -= 1
    return wholes[:many]


def shrunk(wholes):
    """The polynomial divided by the greatest whole that divides all of it."""
    common = 0
    for part in wholes:
        common = gcd(common, part)
        if common == 1:
            return wholes
    return [part // common for part in wholes]


def grown(wholes):
    """How fast the polynomial grows."""
    return [power * part for power, part in enumerate(wholes)][1:]


def _inverse(whole):
    """The whole with which this one, times it, leaves 1 by the prime."""
    low, high = (0, PRIME), (1, whole)
    while high[1] != 1:
        times = low[1] // high[1]
        low, high = high, (low[0] - times * high[0], low[1] - times * high[1])
    return high[0] % PRIME


def _rest_by_prime(one, other):
    """The rest of one divided by the other one, wholes being told by the prime."""
    left = list(one)
    inverse = _inverse(other[-1])
    while len(left) >= len(other):
        factor = left[-1] * inverse % PRIME
        first = len(left) - len(other)
        behind = [(part - factor * less) % PRIME for part, less in zip(left[first:-1], other[:-1])]
        left = trimmed(left[:first] + behind)
    return left


def _is_surely_simple(wholes):
    """Whether the prime tells that the polynomial is nothing nowhere twice."""
    one = [part % PRIME for part in wholes]
    other = trimmed([part % PRIME for part in grown(wholes)])
    if one[-1] == 0:
        return False
    while other:
        one, other = other, _rest_by_prime(one, other)
    return len(one) == 1


def _quotient(one, other):
    """One divided by the other one; None if no polynomial of wholes comes of it."""
    left = list(one)
    found = []
    while len(left) >= len(other):
        times = left[-1] // other[-1]
        if times * other[-1] != left[-1]:
            return None
        found.append(times)
        first = len(left) - len(other)
        behind = [part - times * less for part, less in zip(left[first:-1], other[:-1])]
        left = left[:first] + behind
    return None if trimmed(left) else list(reversed(found))


def _joined(wholes, bits):
    """The value of a polynomial at 1 << bits."""
    found = 0
    for part in reversed(wholes):
        found = (found << bits) + part
    return found


def _parted(whole, bits):
    """The polynomial with this value at 1 << bits whose wholes are as small as may be."""
    found = []
    while whole != 0:
        part = whole & ((1 << bits) - 1)
        if part >> (bits - 1):
            part -= 1 << bits
        found.append(part)
        whole = (whole - part) >> bits
    return found


def _common(one, other):
    """The greatest polynomial that divides both, which are shrunk."""
    # Its value at a great place divides both values there. What these have in common besides is
    # small, and is shrunk away; if the place is not great enough for it, a greater one is.
    bits = max([part.bit_length() for part in one]) + 2
    while True:
        found = shrunk(_parted(gcd(_joined(one, bits), _joined(other, bits)), bits))
        if _quotient(one, found) is not None and _quotient(other, found) is not None:
            return found
        bits += bits // 2


def simple(wholes):
    """A polynomial that is nothing at the same places, and nowhere twice; wholes is not nothing."""
    one = shrunk(wholes)
    if len(one) < 3 or _is_surely_simple(one):
        return one
    return _quotient(one, _common(one, shrunk(grown(one))))


def changes(wholes):
    """How often the sign changes from one whole to the next one, zeros being left out."""
    found = 0
    ahead = 0
    for part in wholes:
        if part != 0:
            if sign_of(part) * ahead < 0:
                found += 1
            ahead = sign_of(part)
    return found


def shifted(wholes):
    """The polynomial of one more than the thing."""
    left = list(reversed(wholes))
    found = []
    while left:
        left = list(accumulate(left))
        found.append(left.pop())
    return found


def halved(wholes):
    """The polynomial of half the thing, times a whole."""
    great = len(wholes) - 1
    return [part << (great - power) for power, part in enumerate(wholes)]


def sign_at(wholes, top, bottom):
    """-1, 0 or 1 as the polynomial is below nothing, nothing or above it at top by bottom."""
    found = 0
    scale = 1
    done = 0
    for at, part in enumerate(reversed(wholes)):
        if part != 0:
            scale *= raised(bottom, at - done)
            found = found * raised(top, at - done) + part * scale
            done = at
    return sign_of(found * raised(top, len(wholes) - 1 - done))
