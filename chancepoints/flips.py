"""Forms for one coin that programs make: by how many flips, by which program, and why not."""

from math import comb, lcm

from chancepoints.coins import form_of, is_form_for, value
from chancepoints.errors import BadForm, BadMany, BadMost, NoMaker, TooMany
from chancepoints.judging import is_within
from chancepoints.products import difference
from chancepoints.roots import roots
from chancepoints.weights import ALL, NOTHING, lies_below, shortened

MOST_FLIPS = 400
MOST_MADE = 6
HALF = (1, 2)
COIN = ("num", 2)
SURELY = (((0,), (1, 1)),)


def _check_form(form):
    if not is_form_for(1, form):
        raise BadForm("no form for one coin")


def _degree(form):
    return form[-1][0][0] if form else 0


def _check_many(form, many):
    if not is_within(many, _degree(form), MOST_FLIPS):
        raise BadMany("no whole from the degree to 400")


class Flips:
    """A form told by how many flips come to 1: each share, times in how many ways it may come.

    All of it is made whole by a bottom. Each flip more parts all that there is into what comes
    to 0 and what comes to 1.
    """

    def __init__(self, form):
        self.bottom = 1
        for _, worth in form:
            self.bottom = lcm(self.bottom, worth[1])
        self.powers = {powers[0]: worth[0] * (self.bottom // worth[1]) for powers, worth in form}
        self.many = 0
        self.tops = [self.powers.get(0, 0)]

    def flip_to(self, many):
        """Let there be so many flips."""
        while self.many < many:
            self.many += 1
            tops = self.tops
            self.tops = [one + other for one, other in zip(tops + [0], [0] + tops)]
            self.tops[self.many] += self.powers.get(self.many, 0)

    def shares(self):
        """The list of the shares for as many flips as there are."""
        return [shortened(top, self.bottom * comb(self.many, at)) for at, top in enumerate(self.tops)]

    def are_chances(self):
        """Whether all shares are from nothing to all."""
        return all([0 <= top <= self.bottom * comb(self.many, at) for at, top in enumerate(self.tops)])


def shares(form, many):
    """The list of the shares of a form for so many flips."""
    _check_form(form)
    _check_many(form, many)
    flips = Flips(form)
    flips.flip_to(many)
    return flips.shares()


def least_flips(form, most):
    """The least number of flips, at most most, with which a program makes a form; None if none does."""
    _check_form(form)
    if not is_within(most, 0, MOST_FLIPS):
        raise BadMost("no whole from 0 to 400")
    flips = Flips(form)
    for many in range(_degree(form), most + 1):
        flips.flip_to(many)
        if flips.are_chances():
            return many
    return None


def _tree(chances, ones, left):
    """Flips the coin as often as is left, behind so many ones, and answers by the chances."""
    if left == 0:
        top, bottom = chances[ones]
        return ("draw", (shortened(bottom - top, bottom), (top, bottom)))
    return ("case", ("name", "x"), (_tree(chances, ones, left - 1), _tree(chances, ones + 1, left - 1)))


def maker(form, many):
    """A program that makes a form, and flips at most so many times."""
    _check_form(form)
    _check_many(form, many)
    flips = Flips(form)
    flips.flip_to(many)
    if not flips.are_chances():
        raise NoMaker("no program with so few flips makes the form")
    if many > MOST_MADE:
        raise TooMany(MOST_MADE)
    return ("fun", "x", COIN, _tree(flips.shares(), 0, many))


def _off_bounds(form):
    """The first place at an end, or in the middle, that tells that no program makes a form."""
    for place in (NOTHING, ALL):
        told = value(form, [place])
        if lies_below(told, NOTHING) or lies_below(ALL, told):
            return ("at", place, told)
    told = value(form, [HALF])
    if form not in ((), SURELY) and not (lies_below(NOTHING, told) and lies_below(told, ALL)):
        return ("at", HALF, told)
    return None


def _touching(form, worth):
    """Where a form comes to nothing, or all, between the ends; None if nowhere."""
    products = {powers: part for powers, part in form}
    less = form_of(difference(products, {(0,): worth} if worth != NOTHING else {}))
    for low, high, _ in roots(less, 2):
        if low != high:
            return ("touches", worth, low, high)
    return None


def why_not(form):
    """None if some program makes a form; otherwise the first that tells that none does."""
    _check_form(form)
    found = _off_bounds(form)
    if form in ((), SURELY):
        return found
    for worth in (NOTHING, ALL):
        if found is None:
            found = _touching(form, worth)
    return found


def can_be_made(form):
    """Whether some program makes a form."""
    return why_not(form) is None
