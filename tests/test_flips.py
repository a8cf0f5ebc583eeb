"""flips.py: points 74 and 75."""

import random
import unittest
from fractions import Fraction
from math import comb

from chancepoints.coins import forms, value
from chancepoints.errors import BadForm, BadMany, BadMost, NoMaker, TooMany
from chancepoints.flips import can_be_made, least_flips, maker, shares, why_not
from chancepoints.meaning import table
from chancepoints.tables import by_things
from chancepoints.terms import is_program, kind_of
from tests.helping import Refusing, STRANGE
from tests.oracle import frac, num, to, weight
from tests.test_coins import FORM, NO_FORMS
from tests.test_roots import at_place, form_of, product_of, slow_roots, times

N2 = num(2)
F = to(N2, N2)
ALL = (1, 1)
HALF = (1, 2)
SURELY = (((0,), ALL),)
COIN_FORM = (((1,), ALL),)
# Forms for two coins and more are no forms here.
WRONG_FORMS = NO_FORMS + [FORM, (((0, 0), ALL),), (((1, 2, 3), HALF),)]


def parts_of(form):
    """The fractions of a form, from the power 0 on."""
    found = [Fraction(0)] * (form[-1][0][0] + 1 if form else 1)
    for powers, worth in form:
        found[powers[0]] = frac(worth)
    return found


def spread(told):
    """The fractions of the form with these shares, worked out as the sum that point 74 tells."""
    many = len(told) - 1
    found = [Fraction(0)] * (many + 1)
    for j, share in enumerate(told):
        for i in range(many - j + 1):
            found[j + i] += share * comb(many, j) * comb(many - j, i) * (-1) ** i
    return found


def trimmed(parts):
    parts = list(parts)
    while len(parts) > 1 and parts[-1] == 0:
        parts.pop()
    return parts


def random_form(source, degree, whole=6):
    return form_of([Fraction(source.randrange(-whole, whole + 1), source.randrange(1, 5)) for _ in range(degree + 1)])


def random_shares(source, many):
    bottom = source.randrange(1, 6)
    return [Fraction(source.randrange(0, bottom + 1), bottom) for _ in range(many + 1)]


def degree(form):
    return form[-1][0][0] if form else 0


def slow_why_not(form):
    """Why no program makes a form, by Sturm's rule."""
    parts = parts_of(form)
    for place in (Fraction(0), Fraction(1)):
        worth = at_place(parts, place)
        if not 0 <= worth <= 1:
            return ("at", weight(place), weight(worth))
    middle = at_place(parts, Fraction(1, 2))
    if form in ((), SURELY):
        return None
    if not 0 < middle < 1:
        return ("at", HALF, weight(middle))
    for t in (0, 1):
        less = [parts[0] - t] + parts[1:]
        for low, high, _ in slow_roots(trimmed(less), 2):
            if low != high:
                return ("touches", (t, 1), low, high)
    return None


class Shares(unittest.TestCase, Refusing):
    def check(self, form, many, expected):
        self.check_calls(shares, {"form": form, "many": many}, expected)

    def test_by_hand(self):
        self.check((), 0, [(0, 1)])
        self.check((), 3, [(0, 1)] * 4)
        self.check(SURELY, 2, [ALL] * 3)
        self.check(COIN_FORM, 1, [(0, 1), ALL])
        self.check(COIN_FORM, 4, [(0, 1), (1, 4), HALF, (3, 4), ALL])
        self.check((((1,), (2, 1)), ((2,), (-2, 1))), 2, [(0, 1), ALL, (0, 1)])
        self.check((((1,), (2, 1)), ((2,), (-2, 1))), 3, [(0, 1), (2, 3), (2, 3), (0, 1)])
        self.check((((0,), (-7, 2)),), 1, [(-7, 2)] * 2)

    def test_their_sum_is_the_form(self):
        source = random.Random(741)
        for _ in range(150):
            form = random_form(source, source.randrange(0, 7))
            for many in sorted({degree(form), degree(form) + 1, degree(form) + source.randrange(2, 25)}):
                told = shares(form, many)
                self.assertEqual(many + 1, len(told))
                self.assertEqual(parts_of(form), trimmed(spread([frac(part) for part in told])))

    def test_many_up_to_400(self):
        source = random.Random(742)
        for many in (100, 399, 400):
            form = random_form(source, 6)
            told = shares(form, many)
            self.assertEqual(many + 1, len(told))
            self.assertEqual(parts_of(form), trimmed(spread([frac(part) for part in told])))
        high = (((400,), ALL),)
        self.assertEqual([(0, 1)] * 400 + [ALL], shares(high, 400))

    def test_refusals(self):
        form = (((0,), HALF), ((3,), (1, 3)))
        wrong = [value_ for value_ in STRANGE if not (type(value_) is int and value_ == 7)] + [2, -1, 401, True, "3", (3,)]
        for function in (shares, maker):
            self.check_refusals(function, {"form": form, "many": 5}, [("form", WRONG_FORMS, BadForm), ("many", wrong, BadMany)])
            self.refused(BadMany, function, (((401,), ALL),), 400)
            self.refused(BadMany, function, (((4000,), ALL),), 4000)
        # A degree of 7 does not let 7 less one.
        self.refused(BadMany, shares, (((7,), ALL),), 6)
        self.assertEqual(8, len(shares((((7,), ALL),), 7)))


class LeastFlips(unittest.TestCase, Refusing):
    def check(self, form, most, expected):
        self.check_calls(least_flips, {"form": form, "most": most}, expected)

    def test_by_hand(self):
        self.check((), 0, 0)
        self.check((), 400, 0)
        self.check(SURELY, 0, 0)
        self.check((((0,), (3, 2)),), 400, None)
        self.check((((0,), (-1, 2)),), 400, None)
        self.check(COIN_FORM, 0, None)
        self.check(COIN_FORM, 1, 1)
        self.check((((401,), ALL),), 400, None)
        self.check((((4000,), ALL),), 400, None)
        self.check((((400,), ALL),), 400, 400)
        self.check((((400,), ALL),), 399, None)
        # 3 c less 3 c to 2 has the shares 0, 3 by 2, 0 for 2.
        self.check((((1,), (3, 1)), ((2,), (-3, 1))), 2, None)
        self.check((((1,), (3, 1)), ((2,), (-3, 1))), 3, 3)

    def test_the_first_for_which_all_shares_are_within(self):
        source = random.Random(743)
        late = 0
        for _ in range(150):
            form = self.within(source)
            most = source.randrange(0, 30)
            expected = None
            for many in range(degree(form), most + 1):
                if all(0 <= frac(part) <= 1 for part in shares(form, many)):
                    expected = many
                    break
            self.assertEqual(expected, least_flips(form, most))
            late += expected is not None and expected > degree(form)
        self.assertGreater(late, 30)

    def within(self, source):
        """A form that is likely to lie between 0 and 1, and to have shares out of bounds at first."""
        roots_ = [Fraction(source.randrange(1, 5), 5) for _ in range(source.randrange(1, 3))]
        parts = [Fraction(1)]
        for v in roots_:
            parts = times(parts, product_of([v, v]))
        lift = Fraction(1, source.randrange(3, 12))
        return form_of([parts[0] + lift] + parts[1:])

    def test_more_flips_stay_enough(self):
        source = random.Random(744)
        for _ in range(40):
            form = form_of(spread(random_shares(source, source.randrange(0, 6))))
            least = least_flips(form, 400)
            self.assertLessEqual(least, max(5, degree(form)))
            for many in range(least, least + 6):
                self.assertTrue(all(0 <= frac(part) <= 1 for part in shares(form, many)))

    def test_touching_forms_are_never_made(self):
        # (2 c less 1) to 2 is 0 at a half, so for no many all shares are from 0 on.
        self.assertIsNone(least_flips((((0,), ALL), ((1,), (-4, 1)), ((2,), (4, 1))), 400))

    def test_refusals(self):
        wrong = [value_ for value_ in STRANGE if not (type(value_) is int and value_ in (0, 1, 7))] + [-1, 401, True, False, "3", (3,)]
        self.check_refusals(least_flips, {"form": COIN_FORM, "most": 5}, [("form", WRONG_FORMS, BadForm), ("most", wrong, BadMost)])


class Maker(unittest.TestCase, Refusing):
    def check(self, form, many):
        program = maker(form, many)
        self.assertTrue(is_program(program))
        self.assertEqual(F, kind_of(program))
        less = form_of(trimmed([(1 if at == 0 else 0) - part for at, part in enumerate(parts_of(form))]))
        self.check_equal([less, form], forms(program))
        self.assertLessEqual(by_things(F, table(program))[0][1], many)
        self.check_equal(program, maker(form=form, many=many))

    def test_forms_that_are_made(self):
        source = random.Random(745)
        for many in range(0, 7):
            for _ in range(6):
                self.check(form_of(spread(random_shares(source, many))), many)
        self.check((), 0)
        self.check((), 6)
        self.check(SURELY, 0)
        self.check(SURELY, 6)
        self.check(COIN_FORM, 1)
        self.check(COIN_FORM, 6)
        self.check((((6,), ALL),), 6)

    def test_forms_that_are_not(self):
        late = (((1,), (3, 1)), ((2,), (-3, 1)))
        self.refused(NoMaker, maker, late, 2)
        self.check(late, 3)
        self.refused(NoMaker, maker, (((0,), (2, 1)),), 0)
        self.refused(NoMaker, maker, (((0,), (-1, 9)),), 4)
        self.refused(NoMaker, maker, (((1,), (1, 1)), ((3,), (1, 9))), 3)

    def test_too_many(self):
        self.assertEqual(6, self.refused(TooMany, maker, COIN_FORM, 7).most)
        self.assertEqual(6, self.refused(TooMany, maker, (), 400).most)
        # NoMaker is raised first.
        self.refused(NoMaker, maker, (((0,), (2, 1)),), 7)
        self.refused(NoMaker, maker, (((0,), ALL), ((1,), (-4, 1)), ((2,), (4, 1))), 400)


class WhyNot(unittest.TestCase, Refusing):
    def check(self, form, expected):
        self.check_calls(why_not, {"form": form}, expected)
        self.check_calls(can_be_made, {"form": form}, expected is None)
        self.check_equal(expected, slow_why_not(form))

    def test_always_0_or_1(self):
        self.check((), None)
        self.check(SURELY, None)

    def test_at_the_ends(self):
        self.check((((0,), (-1, 2)), ((1,), ALL)), ("at", (0, 1), (-1, 2)))
        self.check((((0,), (3, 2)), ((1,), (-1, 1))), ("at", (0, 1), (3, 2)))
        self.check((((1,), (3, 2)),), ("at", (1, 1), (3, 2)))
        self.check((((1,), (-1, 3)),), ("at", (1, 1), (-1, 3)))
        # The first end is told first.
        self.check((((0,), (-1, 2)), ((1,), (5, 1))), ("at", (0, 1), (-1, 2)))
        self.check((((0,), (5, 3)),), ("at", (0, 1), (5, 3)))
        # Just 0 and 1 at the ends is right.
        self.check(COIN_FORM, None)
        self.check((((0,), ALL), ((1,), (-1, 1))), None)
        self.check((((1,), ALL), ((2,), (-1, 1))), None)

    def test_in_the_middle(self):
        self.check((((1,), (4, 1)), ((2,), (-4, 1))), ("at", HALF, ALL))
        self.check((((0,), ALL), ((1,), (-4, 1)), ((2,), (4, 1))), ("at", HALF, (0, 1)))
        self.check((((1,), (6, 1)), ((2,), (-6, 1))), ("at", HALF, (3, 2)))
        self.check((((1,), (-1, 1)), ((2,), (1, 1))), ("at", HALF, (-1, 4)))
        # As good as always 0 or 1, but not just.
        self.check((((0,), (1, 10 ** 60)),), None)

    def test_touching_off_the_middle(self):
        one, two = [Fraction(1, 4)] * 2, [Fraction(3, 4)] * 2
        low = product_of(one)
        self.check(form_of(low), ("touches", (0, 1), (0, 1), HALF))
        self.check(form_of(product_of(two)), ("touches", (0, 1), HALF, (1, 1)))
        both = times(low, product_of(two))
        self.check(form_of(both), ("touches", (0, 1), (0, 1), HALF))
        self.check(form_of([1 - part if at == 0 else -part for at, part in enumerate(both)]), ("touches", ALL, (0, 1), HALF))
        upper = [1 - part if at == 0 else -part for at, part in enumerate(product_of(two))]
        self.check(form_of(upper), ("touches", ALL, HALF, (1, 1)))
        # It goes below 0 between a half and 1, and comes back.
        through = product_of([Fraction(5, 8), Fraction(7, 8)])
        self.check(form_of(through), ("touches", (0, 1), HALF, (1, 1)))

    def test_touching_both(self):
        # 0 is told ahead of 1, though 1 is touched ahead.
        parts = [Fraction(0)] * 4
        for at, part in enumerate(times(product_of([Fraction(1, 5)]), product_of([Fraction(4, 5)] * 2))):
            parts[at] += -3 * part
        parts[0] += Fraction(1, 2)
        self.assertEqual(slow_why_not(form_of(parts)), why_not(form_of(parts)))

    def test_random_forms(self):
        source = random.Random(751)
        seen = {}
        for _ in range(400):
            if source.random() < 0.5:
                form = form_of(spread(random_shares(source, source.randrange(0, 6))))
            else:
                form = self.near(source)
            found = why_not(form)
            self.check_equal(slow_why_not(form), found)
            self.assertIs(found is None, can_be_made(form))
            seen[found and found[:2]] = seen.get(found and found[:2], 0) + 1
            if found is None and form not in ((), SURELY):
                least = least_flips(form, 60)
                if least is not None and least <= 6:
                    self.assertEqual(form, forms(maker(form, least))[1])
            else:
                self.assertIsNone(least_flips(form, 30) if found else None)
        for what in [None, ("at", (0, 1)), ("at", (1, 1)), ("at", HALF), ("touches", (0, 1)), ("touches", (1, 1))]:
            self.assertGreater(seen[what], 3, what)

    def near(self, source):
        """A form that touches, or nearly touches, 0 or 1 somewhere."""
        v = Fraction(source.randrange(0, 9), 8)
        parts = times(product_of([v, v]), [Fraction(1, source.choice([1, 1, 2, 4]))])
        if source.random() < 0.5:
            parts = times(parts, product_of([Fraction(source.randrange(-1, 10), 8)]))
        parts[0] += source.choice([Fraction(0), Fraction(0), Fraction(1, 100), Fraction(-1, 100)])
        if source.random() < 0.5:
            parts = [(1 if at == 0 else 0) - part for at, part in enumerate(parts)]
        return form_of(trimmed(parts))

    def test_high_degrees(self):
        self.check((((4000,), ALL),), None)
        self.assertEqual(("at", (1, 1), (2, 1)), why_not((((4000,), (2, 1)),)))

    def test_values_are_those_of_the_form(self):
        form = (((0,), (-1, 3)), ((2,), (2, 1)))
        self.assertEqual(("at", (0, 1), value(form, [(0, 1)])), why_not(form))

    def test_refusals(self):
        for function in (why_not, can_be_made):
            self.check_refusals(function, {"form": COIN_FORM}, [("form", WRONG_FORMS, BadForm)])


if __name__ == "__main__":
    unittest.main()
