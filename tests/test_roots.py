"""roots.py: points 72 and 73."""

import random
import unittest
from fractions import Fraction
from math import comb, gcd, lcm

from chancepoints.coins import forms, value
from chancepoints.errors import BadBottom, BadForm, BadKind, BadNumber, BadProgram, TooMany
from chancepoints.roots import meeting, roots
from tests.helping import Refusing, STRANGE
from tests.oracle import COIN, case, draw, frac, fun, name, never, num, number, to, weight
from tests.shapes import X
from tests.test_coins import FORM, NO_FORMS, coin_program, doubled, slow_value
from tests.test_manners import NO_PROGRAMS, TWICE, composed

N2, N3 = num(2), num(3)
F = to(N2, N2)
ALL = (1, 1)
HALF = (1, 2)
IDENTITY = fun("x", N2, X)
WRONG_BOTTOMS = [value_ for value_ in STRANGE if not (type(value_) is int and value_ in (1, 7))] + [0, -1, 10 ** 6 + 1, True, "2", (2,), 10 ** 79]


def form_of(parts):
    """The form with these fractions as weights, from the power 0 on."""
    return tuple(((at,), weight(part)) for at, part in enumerate(parts) if part)


def product_of(places, lead=1):
    """The fractions of lead times the product of c - v for all places v."""
    found = [Fraction(lead)]
    for v in places:
        ahead = [Fraction(0)] + found
        found = [one - v * other for one, other in zip(ahead, found + [Fraction(0)])]
    return found


def times(one, other):
    found = [Fraction(0)] * (len(one) + len(other) - 1)
    for at, part in enumerate(one):
        for place, factor in enumerate(other):
            found[at + place] += part * factor
    return found


def told(places, bottom):
    """What roots tells of a form that is 0 from 0 to 1 just at these places."""
    found = {}
    for v in sorted({Fraction(v) for v in places}):
        if 0 <= v <= 1:
            at = v * bottom
            low = at.numerator // at.denominator
            key = (low, 0 if at == low else 1)
            found[key] = found.get(key, 0) + 1
    return [(weight(Fraction(low, bottom)), weight(Fraction(low + between, bottom)), found[(low, between)]) for low, between in sorted(found)]


# Sturm's rule, with fractions: how many places there are from above low up to high.


def rest(one, other):
    one = list(one)
    while len(one) >= len(other):
        factor = one[-1] / other[-1]
        for at in range(len(other)):
            one[len(one) - len(other) + at] -= factor * other[at]
        one.pop()
    while one and one[-1] == 0:
        one.pop()
    bottom = lcm(*[part.denominator for part in one])
    top = gcd(*[part.numerator for part in one])
    return [part * bottom / top for part in one]


def chain_of(parts):
    found = [list(parts), [at * part for at, part in enumerate(parts)][1:]]
    while found[-1]:
        found.append([-part for part in rest(found[-2], found[-1])])
    found.pop()
    common = found[-1]
    return [quotient(part, common) for part in found]


def quotient(one, other):
    one, found = list(one), []
    while len(one) >= len(other):
        factor = one[-1] / other[-1]
        found.insert(0, factor)
        for at in range(len(other)):
            one[len(one) - len(other) + at] -= factor * other[at]
        one.pop()
    return found


def at_place(parts, v):
    found = Fraction(0)
    for part in reversed(parts):
        found = found * v + part
    return found


def signs(chain, v):
    values = [at_place(parts, v) for parts in chain]
    values = [part for part in values if part]
    return sum(1 for one, other in zip(values, values[1:]) if one * other < 0)


def slow_roots(parts, bottom):
    parts = list(parts)
    while parts[-1] == 0:
        parts.pop()
    chain = chain_of(parts) if len(parts) > 1 else [parts]
    found = []
    grid = [Fraction(at, bottom) for at in range(bottom + 1)]
    counts = [signs(chain, v) for v in grid]
    for at, v in enumerate(grid):
        if at_place(parts, v) == 0:
            found.append((weight(v), weight(v), 1))
        if at < bottom:
            many = counts[at] - counts[at + 1] - (at_place(parts, grid[at + 1]) == 0)
            if many:
                found.append((weight(v), weight(grid[at + 1]), many))
    return found


class Roots(unittest.TestCase, Refusing):
    def check(self, form, bottom, expected):
        self.check_calls(roots, {"form": form, "bottom": bottom}, expected)

    def check_places(self, places, bottom, lead=1, more=(Fraction(1),)):
        self.check(form_of(times(product_of(places, lead), more)), bottom, told(places, bottom))

    def test_the_examples(self):
        self.check((((0,), (-1, 1)), ((2,), (2, 1))), 2, [((1, 2), (1, 1), 1)])
        self.check((((1,), ALL), ((2,), (-1, 1))), 1, [((0, 1), (0, 1), 1), (ALL, ALL, 1)])

    def test_none(self):
        for bottom in (1, 2, 7, 10 ** 6):
            self.check((((0,), ALL),), bottom, [])
            self.check((((0,), (-3, 7)),), bottom, [])
            self.check((((0,), ALL), ((1,), ALL)), bottom, [])
            self.check((((0,), ALL), ((2,), ALL)), bottom, [])
            self.check((((0,), (-2, 1)), ((1,), ALL)), bottom, [])
            self.check((((0,), (1, 3)), ((1,), (-1, 1)), ((2,), ALL)), bottom, [])

    def test_only_at_the_ends(self):
        for bottom in (1, 2, 10 ** 6):
            for power in (1, 2, 5, 4000):
                self.check((((power,), (3, 7)),), bottom, [((0, 1), (0, 1), 1)])
            self.check((((0,), ALL), ((1,), (-1, 1))), bottom, [(ALL, ALL, 1)])
            self.check((((0,), ALL), ((1,), (-2, 1)), ((2,), ALL)), bottom, [(ALL, ALL, 1)])
            self.check((((3,), ALL), ((5,), (-1, 1))), bottom, [((0, 1), (0, 1), 1), (ALL, ALL, 1)])

    def test_on_the_grid_and_between(self):
        half, third = Fraction(1, 2), Fraction(1, 3)
        for places in ([half], [third], [half, third], [0, half, 1], [half, third, 0], [third, Fraction(1, 4)], [Fraction(-1, 2), half], [2, third, Fraction(3, 2)]):
            for bottom in (1, 2, 3, 4, 5, 6, 12, 10 ** 6):
                self.check_places(places, bottom)
                self.check_places(places, bottom, Fraction(-7, 3))

    def test_several_between_two_neighbours(self):
        places = [Fraction(at, 31) for at in range(32)]
        for bottom in (1, 2, 3, 10, 31, 62, 10 ** 6):
            self.check_places(places, bottom)
        self.check(form_of(product_of([Fraction(1, 5), Fraction(2, 5), Fraction(3, 5)])), 2, [((0, 1), HALF, 2), (HALF, ALL, 1)])

    def test_a_root_on_the_grid_beside_one_between(self):
        near = Fraction(1, 10 ** 60)
        for places in ([HALF_, HALF_ + near] for HALF_ in (Fraction(1, 2), Fraction(0), Fraction(1, 3))):
            for bottom in (1, 2, 3, 1000):
                self.check_places(places, bottom)
        for places in ([Fraction(1, 2) - near, Fraction(1, 2), Fraction(1, 2) + near], [1 - near, 1], [Fraction(1, 3) - near, Fraction(1, 3) + near]):
            for bottom in (1, 2, 3, 1000):
                self.check_places(places, bottom)

    def test_places_told_by_no_fraction(self):
        self.check(form_of([-1, 0, 0, 2]), 10 ** 6, told_between(Fraction(1, 2), 3, 10 ** 6))
        self.check(form_of([-1, 0, 3]), 10 ** 6, told_between(Fraction(1, 3), 2, 10 ** 6))
        # One on the grid, and one beside it told by no fraction.
        both = times(product_of([Fraction(7, 10)]), [-1, 0, 2])
        self.check(form_of(both), 10, [((7, 10), (7, 10), 1), ((7, 10), (4, 5), 1)])
        self.check(form_of(both), 5, [((3, 5), (4, 5), 2)])

    def test_double_ones_count_once(self):
        half, third = Fraction(1, 2), Fraction(1, 3)
        for places in ([half, half], [half] * 3, [half] * 60, [third, third, half], [half, third] * 20, [0, 0, third, third], [1, 1, half], [0, 1] * 8):
            for bottom in (1, 2, 3, 5, 6, 1000):
                self.check_places(places, bottom)
        squared = times([-1, 0, 2], [-1, 0, 2])
        self.check(form_of(squared), 2, [(HALF, ALL, 1)])
        self.check(form_of(times(squared, [Fraction(-1, 2), 1])), 2, [(HALF, HALF, 1), (HALF, ALL, 1)])
        self.check(form_of(times(squared, [1, 0, 1])), 1, [((0, 1), ALL, 1)])

    def test_double_ones_of_many_digits(self):
        source = random.Random(725)
        for many, often in ((20, 3), (30, 2), (3, 12)):
            places = [Fraction(source.randrange(1, 10 ** 20), 10 ** 20) for _ in range(many)]
            for bottom in (1, 7, 10 ** 6):
                self.check_places(places * often, bottom)
            self.check_places(places * often + places[:2] + [0, 1, 1], 9)

    def test_random_forms_against_another_rule(self):
        source = random.Random(721)
        for _ in range(300):
            great = source.randrange(0, 8)
            parts = [Fraction(source.randrange(-6, 7), source.randrange(1, 5)) for _ in range(great + 1)]
            if source.random() < 0.4:
                parts = times(parts, product_of([Fraction(source.randrange(0, 5), 4) for _ in range(source.randrange(1, 4))]))
            if source.random() < 0.2:
                parts = times(parts, parts)
            if any(parts):
                bottom = source.choice([1, 2, 3, 4, 7, 8])
                self.check(form_of(parts), bottom, slow_roots(parts, bottom))

    def test_random_places(self):
        source = random.Random(722)
        for _ in range(150):
            many = source.randrange(1, 7)
            places = [Fraction(source.randrange(-3, 13), source.randrange(1, 11)) for _ in range(many)]
            more = source.choice([[Fraction(1)], [Fraction(1), 0, 1], [Fraction(3), 1], [Fraction(1, 10), Fraction(-1, 2), 1]])
            self.check_places(places, source.choice([1, 2, 3, 5, 12, 100, 10 ** 6]), source.choice([1, -3]), more)

    def test_great_degrees(self):
        found = roots((((0,), (-1, 2)), ((4000,), ALL)), 10 ** 6)
        self.assertEqual([(weight(Fraction(999826, 10 ** 6)), weight(Fraction(999827, 10 ** 6)), 1)], found)
        self.assertTrue(Fraction(999826, 10 ** 6) ** 4000 < Fraction(1, 2) < Fraction(999827, 10 ** 6) ** 4000)
        self.check((((0,), (-1, 1)), ((4000,), ALL)), 10 ** 6, [(ALL, ALL, 1)])
        self.check((((1,), ALL), ((4000,), (-1, 1))), 3, [((0, 1), (0, 1), 1), (ALL, ALL, 1)])
        self.check((((0,), (-1, 1)), ((4000,), (2 ** 4000, 1))), 4, [(HALF, HALF, 1)])
        # Where as many come to 0 as to 1: only at one half.
        many = 300
        parts = [Fraction((-1) ** at * comb(many, at)) for at in range(many + 1)]
        parts[many] -= 1
        self.check(form_of(parts), 7, [((3, 7), (4, 7), 1)])
        self.check(form_of(parts), 2, [(HALF, HALF, 1)])

    def test_powers_of_powers(self):
        # Of c ** 1000 there are the places 1/2 and 1/3, of c ** 6 a double one, and 0 and 1.
        two = times(product_of([Fraction(1, 2)]), product_of([Fraction(1, 3)]))
        form = tuple(((1000 * at,), weight(part)) for at, part in enumerate(two))
        for bottom in (2, 1000, 10 ** 6):
            expected = told_between(Fraction(1, 3), 1000, bottom) + told_between(Fraction(1, 2), 1000, bottom)
            if expected[0] == expected[1]:
                expected = [expected[0][:2] + (2,)]
            self.check(form, bottom, expected)
        squared = times(product_of([Fraction(1, 64)] * 2), product_of([0, 1, 1]))
        form = tuple(((6 * at,), weight(part)) for at, part in enumerate(squared) if part)
        ends = [((0, 1), (0, 1), 1), (ALL, ALL, 1)]
        self.check(form, 4, [ends[0], (HALF, HALF, 1), ends[1]])
        self.check(form, 5, [ends[0], ((2, 5), (3, 5), 1), ends[1]])
        for power in (1, 2, 3, 7):
            for places in ([Fraction(1, 2)], [Fraction(1, 3), Fraction(2, 3)], [Fraction(1, 5), Fraction(2, 5), Fraction(1)]):
                parts = product_of([v ** power for v in places])
                form = tuple(((power * at,), weight(part)) for at, part in enumerate(parts))
                for bottom in (1, 2, 3, 4, 15):
                    self.check(form, bottom, told(places, bottom))

    def test_several_places_of_forms_of_great_degree(self):
        half, third = Fraction(1, 2), Fraction(1, 3)
        for great in (99, 101, 150, 151):
            # c ** great less 1/2, times c less 1/3, or times c less 9/10.
            for place in (third, Fraction(9, 10), Fraction(10 ** 7 - 1, 10 ** 7), half):
                parts = times([-half] + [Fraction(0)] * (great - 1) + [Fraction(1)], [-place, Fraction(1)])
                for bottom in (1, 3, 10, 1000):
                    expected = sorted(told_between(half, great, bottom) + told([place], bottom), key=lambda part: [frac(part[0]), frac(part[1])])
                    if len(expected) == 2 and expected[0] == expected[1]:
                        expected = [expected[0][:2] + (2,)]
                    self.check(form_of(parts), bottom, expected)
        found = roots((((0,), (1, 10)), ((999,), (-1, 1)), ((2000,), ALL)), 10 ** 6)
        self.assertEqual([997816, 997817, 999880, 999881], [int(frac(part) * 10 ** 6) for told_ in found for part in told_[:2]])
        # A double place, and places beside one another, are not told by changes of sign.
        parts = times(product_of([half, half]), [Fraction(1)] + [Fraction(0)] * 119 + [Fraction(1)])
        self.check(form_of(parts), 3, [((1, 3), (2, 3), 1)])
        near = [third, third + Fraction(1, 10 ** 9)]
        self.check(form_of(times(product_of(near), [Fraction(1)] + [Fraction(0)] * 119 + [Fraction(1)])), 2, [((0, 1), HALF, 2)])
        # On the row that is looked at there is one, too.
        both = times(product_of([Fraction(5, 32), Fraction(7, 9)]), [Fraction(1)] + [Fraction(0)] * 119 + [Fraction(1)])
        self.check(form_of(both), 32, told([Fraction(5, 32), Fraction(7, 9)], 32))

    def test_great_weights(self):
        great = 10 ** 79
        self.check((((0,), (-great, 1)), ((1,), (great + 1, 1))), 10 ** 6, [((999999, 10 ** 6), ALL, 1)])
        self.check((((0,), (-1, great)), ((1,), ALL)), 10 ** 6, [((0, 1), (1, 10 ** 6), 1)])
        self.check((((0,), (-1, great)), ((1,), (great - 1, great))), 1, [((0, 1), ALL, 1)])
        source = random.Random(723)
        parts = [Fraction(source.randrange(-great, great), source.randrange(1, great)) for _ in range(12)]
        self.check(form_of(parts), 9, slow_roots(parts, 9))

    def test_all_that_is_told_is_right(self):
        source = random.Random(724)
        for _ in range(60):
            parts = [Fraction(source.randrange(-9, 10)) for _ in range(source.randrange(2, 9))]
            if not any(parts):
                continue
            bottom = source.choice([2, 10, 10 ** 6])
            for low, high, many in roots(form_of(parts), bottom):
                if low == high:
                    self.assertEqual((0, 1), value(form_of(parts), [low]))
                    self.assertEqual(1, many)
                else:
                    self.assertEqual(frac(high) - frac(low), Fraction(1, bottom))
                    if many == 1 and at_place(parts, frac(low)) and at_place(parts, frac(high)):
                        self.assertLessEqual(at_place(parts, frac(low)) * at_place(parts, frac(high)), 0)

    def test_refusals(self):
        forms_ = NO_FORMS + [(), FORM, (((0, 0), ALL),)]
        self.check_refusals(roots, {"form": (((0,), ALL), ((1,), (-1, 1))), "bottom": 2}, [
            ("form", forms_, BadForm), ("bottom", WRONG_BOTTOMS, BadBottom),
        ])


def told_between(power_value, power, bottom):
    """The one triple for the place whose power is told."""
    low, high = 0, bottom
    while high - low > 1:
        middle = (low + high) // 2
        if Fraction(middle, bottom) ** power < power_value:
            low = middle
        else:
            high = middle
    return [(weight(Fraction(low, bottom)), weight(Fraction(high, bottom)), 1)]


class Meeting(unittest.TestCase, Refusing):
    def check(self, one, other, number_, bottom, expected):
        self.check_calls(meeting, {"one": one, "other": other, "number": number_, "bottom": bottom}, expected)

    def test_by_hand(self):
        fair = fun("x", N2, COIN)
        self.check(IDENTITY, fair, 0, 2, [(HALF, HALF, 1)])
        self.check(IDENTITY, fair, 1, 3, [((1, 3), (2, 3), 1)])
        self.check(TWICE, fair, 0, 2, [((0, 1), HALF, 1)])
        self.check(TWICE, IDENTITY, 0, 5, [((0, 1), (0, 1), 1), (ALL, ALL, 1)])
        self.check(TWICE, fun("y", N2, case(name("y"), name("y"), number(1, 2))), 1, 2, None)
        self.check(IDENTITY, IDENTITY, 0, 1, None)
        self.check(fun("x", N2, number(0, 2)), fun("x", N2, number(1, 2)), 0, 10, [])
        self.check(fun("x", N2, number(0, 2)), fun("x", N2, draw(HALF, (0, 1))), 0, 10, [])

    def test_alike_for_one_number_only(self):
        one = fun("x", N2, case(X, number(0, 3), number(1, 3)))
        other = fun("x", N2, case(X, number(0, 3), number(2, 3)))
        self.check(one, other, 0, 4, None)
        self.check(one, other, 1, 4, [((0, 1), (0, 1), 1)])
        self.check(one, other, 2, 4, [((0, 1), (0, 1), 1)])
        # Alike for coins, but not alike.
        self.check(fun("x", N2, case(X, COIN, COIN)), fun("x", N2, COIN), 1, 4, None)

    def test_random_pairs(self):
        source = random.Random(731)
        seen = {}
        for _ in range(120):
            kind = source.choice([F, to(N2, N3)])
            one, other = coin_program(source, kind, 3), coin_program(source, kind, 3)
            for number_ in range(kind[2][1]):
                sums = {}
                for form, sign in ((forms(one)[number_], 1), (forms(other)[number_], -1)):
                    for powers, part in form:
                        sums[powers[0]] = sums.get(powers[0], 0) + sign * frac(part)
                parts = [sums.get(at, Fraction(0)) for at in range(max(sums, default=0) + 1)]
                bottom = source.choice([1, 2, 3, 6])
                expected = slow_roots(parts, bottom) if any(parts) else None
                self.check(one, other, number_, bottom, expected)
                seen[str(expected)] = True
                for told_ in expected or []:
                    if told_[0] == told_[1]:
                        self.assertEqual(slow_value(forms(one)[number_], [told_[0]]), slow_value(forms(other)[number_], [told_[0]]))
        self.assertGreater(len(seen), 8)

    def test_great_powers(self):
        often = doubled(fun("x", N2, case(X, never(N2), case(X, never(N2), number(1, 2)))), 3)
        found = meeting(often, fun("x", N2, COIN), 1, 10 ** 6)
        self.assertEqual(told_between(Fraction(1, 2), 256, 10 ** 6), found)

    def test_refusals(self):
        unlike = [never(to(N2, N3)), never(to(N2, N2, N2)), COIN]
        kinds = [COIN, never(to(N3, N2)), never(to(N2, N2, N2)), never(to(F, N2)), never(to(to(N2, N2), N2)), number(0, 1)]
        numbers = [value_ for value_ in STRANGE if not (type(value_) is int and value_ in (0, 1))] + [2, -1, 3, True, "0", (0,)]
        right = {"one": TWICE, "other": IDENTITY, "number": 1, "bottom": 4}
        self.check_refusals(meeting, right, [
            ("one", NO_PROGRAMS, BadProgram), ("other", NO_PROGRAMS, BadProgram), ("other", unlike, BadKind), ("number", numbers, BadNumber),
            ("bottom", WRONG_BOTTOMS, BadBottom),
        ])
        for part in kinds:
            self.refused(BadKind, meeting, part, part, None, None)
        large = composed(TWICE, 12)
        self.refused(BadNumber, meeting, large, large, 2, None)
        self.refused(BadBottom, meeting, large, large, 1, 0)
        self.assertEqual(4000, self.refused(TooMany, meeting, large, IDENTITY, 1, 1).most)
        self.assertEqual(4000, self.refused(TooMany, meeting, IDENTITY, large, 1, 1).most)


if __name__ == "__main__":
    unittest.main()
