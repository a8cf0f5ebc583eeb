"""Where forms for one coin are 0, told by a grid of weights."""

from math import gcd, lcm

from chancepoints.coins import form_of, is_form_for, products_of
from chancepoints.errors import BadBottom, BadForm, BadKind, BadNumber
from chancepoints.judging import is_whole, is_within
from chancepoints.kinding import kind_for
from chancepoints.polynomials import changes, halved, raised, shifted, shrunk, sign_at, sign_of, simple
from chancepoints.products import difference
from chancepoints.terms import check_program
from chancepoints.weights import shortened

MOST_BOTTOM = 1000000
# From this degree on it takes less work to look for changes of sign at first.
GREAT_DEGREE = 100
FINEST = 20


def _wholes_of(form):
    """The polynomial of a form, made whole by a whole above 0."""
    common = 1
    for _, worth in form:
        common = lcm(common, worth[1])
    found = [0] * (form[-1][0][0] + 1)
    for powers, worth in form:
        found[powers[0]] = worth[0] * (common // worth[1])
    return found


def _row_of_intervals():
    """The list of pairs (first, level) of intervals from 0 to 1, ever shorter ones towards 1."""
    found = [(first, 6) for first in range(32)]
    for level in range(1, FINEST):
        beginning = 8 * ((2 << level) - 2)
        found.extend([(beginning + at, level + 4) for at in range(8)])
    return found


def _intervals_by_signs(wholes, many):
    """The intervals of the row in which the sign changes; None unless there are just so many."""
    found = []
    ahead = sign_of(wholes[0])
    for first, level in _row_of_intervals():
        sign = sign_at(wholes, first + 1, 1 << level)
        if sign == 0:
            return None
        if sign != ahead:
            found.append((first, level, ahead))
        ahead = sign
    return found if len(found) == many else None


def _halves(wholes, first, level, waiting):
    """Put both halves of an interval to what waits; whether the polynomial is 0 between them."""
    left = shrunk(halved(wholes))
    right = shifted(left)
    is_root = right[0] == 0
    waiting.append((left, 2 * first, level + 1))
    waiting.append((right[1:] if is_root else right, 2 * first + 1, level + 1))
    return is_root


def _many_between(wholes):
    """How many places from 0 to 1, but for both ends, there may be; just so many if 0 or 1."""
    # By the rule of signs. If it lets one place be above 0 there is one, there or behind 1.
    many = changes(wholes)
    if many == 1:
        return 1 if sign_of(wholes[0]) * sum(wholes) < 0 else 0
    return many if many == 0 else changes(shifted(list(reversed(wholes))))


def _intervals(wholes):
    """The list of triples (first, level, sign), for each place from 0 to 1, but for both ends, at
    which a polynomial that is 0 nowhere twice, and not at 0, is 0.

    The place is strictly between first and first + 1, by 2 ** level, and the only one there, and
    sign is the polynomial's ahead of it; or it is first by 2 ** level, and sign is 0.
    """
    found = []
    waiting = [(wholes, 0, 0)]
    while waiting:
        part, first, level = waiting.pop()
        many = _many_between(part)
        if many == 1:
            found.append((first, level, sign_of(part[0])))
        elif many > 1 and _halves(part, first, level, waiting):
            found.append((2 * first + 1, level + 1, 0))
    return found


def _side_of(wholes, interval, top, bottom):
    """-1, 0 or 1 as top by bottom is ahead of, at or behind the place of an interval."""
    first, level, sign = interval
    scaled = top << level
    if sign == 0 or scaled <= first * bottom:
        return sign_of(scaled - first * bottom) if sign == 0 else -1
    if scaled >= (first + 1) * bottom:
        return 1
    return -sign * sign_at(wholes, top, bottom)


def _place_of(wholes, interval, bottom, power):
    """The pair of the top of the last weight of the grid up to a place, and of 0 if it is there.

    The place is the one whose power is the place of the interval. If it is not on the grid the
    pair has 1.
    """
    low, high = 0, bottom
    great = raised(bottom, power)
    while high - low > 1:
        middle = (low + high) // 2
        side = _side_of(wholes, interval, raised(middle, power), great)
        if side == 0:
            return middle, 0
        if side < 0:
            low = middle
        else:
            high = middle
    return low, 1


def _common_power(wholes):
    """The greatest whole that divides all powers that stand in a polynomial; 1 for none but 0."""
    common = 0
    for power, part in enumerate(wholes):
        if part != 0:
            common = gcd(common, power)
    return max(common, 1)


def _roots(form, bottom):
    """The roots of what surely is a form for one coin, and not ()."""
    wholes = _wholes_of(form)
    places = {}
    if wholes[0] == 0:
        places[(0, 0)] = 1
        wholes = wholes[form[0][0][0]:]
    # A polynomial of a power of the thing is one of this power, of a smaller degree.
    power = _common_power(wholes)
    wholes = wholes[::power]
    if sum(wholes) == 0:
        places[(bottom, 0)] = 1
    many = _many_between(wholes)
    intervals = None
    if many > 1 and len(wholes) > GREAT_DEGREE:
        # As many changes of sign as there may be places tell them all.
        intervals = _intervals_by_signs(wholes, many)
    if intervals is None:
        wholes = simple(wholes) if many > 1 else wholes
        intervals = _intervals(wholes)
    for interval in intervals:
        place = _place_of(wholes, interval, bottom, power)
        places[place] = places.get(place, 0) + 1
    found = []
    for at, between in sorted(places):
        low, high = shortened(at, bottom), shortened(at + between, bottom)
        found.append((low, high, places[(at, between)]))
    return found


def _check_bottom(bottom):
    if not is_within(bottom, 1, MOST_BOTTOM):
        raise BadBottom("no whole from 1 to 10 ** 6")


def roots(form, bottom):
    """Where a form for one coin is 0 from 0 to 1: triples of a low and a high place, and how often."""
    if not is_form_for(1, form) or len(form) == 0:
        raise BadForm("no form for one coin but ()")
    _check_bottom(bottom)
    return _roots(form, bottom)


def _check_kinds(one, other):
    """The number of the answers of two programs of one kind of a coin."""
    check_program(one)
    check_program(other)
    kind = kind_for(one, {})
    if kind != kind_for(other, {}) or kind[0] != "to" or kind[1] != ("num", 2) or kind[2][0] != "num":
        raise BadKind("not the same kind of one coin")
    return kind[2][1]


def meeting(one, other, number, bottom):
    """The coins for which two programs come to a number with the same chance; None for all."""
    many = _check_kinds(one, other)
    if not is_whole(number) or not 0 <= number < many:
        raise BadNumber("no number to which the programs may come")
    _check_bottom(bottom)
    form = form_of(difference(products_of(one)[number], products_of(other)[number]))
    return None if form == () else _roots(form, bottom)
