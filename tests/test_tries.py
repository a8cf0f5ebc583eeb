"""tries.py: points 44, 45 and 46."""

import random
import unittest
from fractions import Fraction
from math import comb

from chancepoints.alike import chances_in, is_surrounding, put_in
from chancepoints.errors import BadChances, BadExpression, BadKind, BadNumber, BadSurrounding, BadWeight, TooMany
from chancepoints.meaning import table
from chancepoints.terms import kind_of
from chancepoints.tries import at_least, counted, counting, enough_tries, least_tries
from chancepoints.weighing import chances_of
from tests.helping import Refusing, STRANGE, strange_but
from tests.oracle import (
    COIN, HALF, Maker, call, case, draw, frac, fun, measured, name, never, num, number, take, to, weight,
)
from tests.shapes import X
from tests.test_alike import NO_SURROUNDINGS
from tests.test_kinds import WRONG as KINDS_WRONG
from tests.test_manners import TWICE

N1, N2, N3, N6 = num(1), num(2), num(3), num(6)
F = to(N2, N2)
G = to(F, N2)
ALL, NOTHING = (1, 1), (0, 1)
H = name("h")
BIG = 10 ** 79
NO_CHANCES = STRANGE + [(-1, 2), (3, 2), (BIG + 1, BIG), (2, 4), [1, 2], (True, 1), (1, True), (1, 2, 3), "1/2", (0, 2), (1, 0)]
NO_CHANCES = [value for value in NO_CHANCES if value not in ((1, 2),)]


def whole_numbers_but(low, high):
    """Values that are no whole from low to high."""
    found = [value for value in STRANGE if not (type(value) is int and low <= value <= high)]
    return found + [low - 1, high + 1, True, False, str(low), (low,), [low], BIG]


def slow_at_least(c, tries, bar):
    return sum((comb(tries, i) * c ** i * (1 - c) ** (tries - i) for i in range(bar, tries + 1)), Fraction(0))


def slow_least_tries(one, other, wish):
    low, high = sorted([one, other])
    for tries in range(1, 41):
        for bar in range(1, tries + 1):
            if slow_at_least(high, tries, bar) >= 1 - wish and slow_at_least(low, tries, bar) <= wish:
                return tries, bar
    return None


def random_chance(source):
    return Fraction(source.randrange(0, 13), 12)


class AtLeast(unittest.TestCase, Refusing):
    def check(self, chance, tries, bar, expected):
        self.check_calls(at_least, {"chance": chance, "tries": tries, "bar": bar}, expected)

    def test_by_hand(self):
        self.check(HALF, 2, 1, (3, 4))
        self.check(HALF, 3, 2, HALF)
        self.check((1, 3), 2, 2, (1, 9))
        self.check((1, 3), 1, 1, (1, 3))

    def test_edges(self):
        for chance in (NOTHING, HALF, ALL):
            for tries in (0, 1, 40):
                self.check(chance, tries, 0, ALL)
                self.check(chance, tries, tries + 1, NOTHING)
                self.check(chance, tries, 41, NOTHING)
        self.check(ALL, 40, 40, ALL)
        self.check(NOTHING, 40, 1, NOTHING)
        self.check(HALF, 40, 40, (1, 2 ** 40))
        self.check((1, BIG), 40, 40, (1, BIG ** 40))

    def test_sums(self):
        source = random.Random(441)
        for _ in range(200):
            c, tries = random_chance(source), source.randrange(0, 41)
            for bar in (0, 1, tries // 2, tries, source.randrange(0, 42)):
                self.check_equal(weight(slow_at_least(c, tries, bar)), at_least(weight(c), tries, bar))

    def test_refusals(self):
        self.check_refusals(at_least, {"chance": HALF, "tries": 3, "bar": 2}, [
            ("chance", NO_CHANCES, BadWeight), ("tries", whole_numbers_but(0, 40), BadNumber), ("bar", whole_numbers_but(0, 41), BadNumber),
        ])


class LeastTries(unittest.TestCase, Refusing):
    def check(self, one, other, wish, expected):
        self.check_calls(least_tries, {"one": one, "other": other, "wish": wish}, expected)
        self.check_calls(least_tries, {"one": other, "other": one, "wish": wish}, expected)

    def test_by_hand(self):
        self.check(ALL, NOTHING, (1, BIG), (1, 1))
        self.check(HALF, NOTHING, (1, 4), (2, 1))
        self.check(HALF, NOTHING, (1, 8), (3, 1))
        self.check(HALF, ALL, (1, 8), (3, 3))
        self.check(HALF, NOTHING, (1, 2 ** 40), (40, 1))
        # Just as much as is wished.
        self.check((2, 3), (1, 3), (1, 3), (1, 1))

    def test_against_a_search(self):
        source = random.Random(451)
        seen = {}
        for _ in range(120):
            one, other = random_chance(source), random_chance(source)
            wish = Fraction(source.randrange(1, 50), 100)
            if one == other:
                continue
            expected = slow_least_tries(one, other, wish)
            given = weight(one), weight(other), weight(wish)
            seen[expected is None] = seen.get(expected is None, 0) + 1
            if expected is None:
                self.assertEqual(40, self.refused(TooMany, least_tries, *given).most)
                continue
            self.check_equal(expected, least_tries(*given))
            # It never wants more than what is surely enough.
            self.assertLessEqual(expected[0], enough_tries(*given)[0])
        self.assertGreater(min(seen.values()), 5)

    def test_too_many(self):
        self.assertEqual(40, self.refused(TooMany, least_tries, HALF, NOTHING, (1, 2 ** 40 + 1)).most)
        self.assertEqual(40, self.refused(TooMany, least_tries, HALF, (1001, 2000), (1, 10)).most)

    def test_wishes_near_a_half(self):
        self.check(HALF, (1, 3), (499, 1000), slow_least_tries(Fraction(1, 2), Fraction(1, 3), Fraction(499, 1000)))
        self.check((3, 5), (2, 5), (BIG - 1, 2 * BIG), (1, 1))


class EnoughTries(unittest.TestCase, Refusing):
    def check(self, one, other, wish, expected):
        self.check_calls(enough_tries, {"one": one, "other": other, "wish": wish}, expected)
        self.check_calls(enough_tries, {"one": other, "other": one, "wish": wish}, expected)

    def test_by_hand(self):
        self.check(HALF, NOTHING, (1, 4), (16, 4))
        self.check(ALL, NOTHING, (1, 3), (3, 2))
        self.check(ALL, NOTHING, (2, 5), (3, 2))
        self.check(ALL, NOTHING, (1, 4), (4, 2))
        self.check((2, 3), (1, 3), (1, 9), (81, 41))
        self.check((1, BIG), NOTHING, (1, BIG), (BIG ** 3, (BIG ** 2 + 1) // 2))

    def test_just_enough(self):
        source = random.Random(452)
        for _ in range(200):
            one, other = random_chance(source), random_chance(source)
            wish = Fraction(source.randrange(1, 60), 120)
            if one == other or wish >= Fraction(1, 2):
                continue
            n, bar = enough_tries(weight(one), weight(other), weight(wish))
            size = wish * (one - other) ** 2
            self.assertGreaterEqual(n * size, 1)
            self.assertLess((n - 1) * size, 1)
            mean = n * (one + other) / 2
            self.assertGreaterEqual(bar, mean)
            self.assertLess(bar - 1, mean)
            if n <= 40:
                low, high = sorted([one, other])
                self.assertGreaterEqual(slow_at_least(high, n, bar), 1 - wish)
                self.assertLessEqual(slow_at_least(low, n, bar), wish)

    def test_refusals(self):
        wishes = NO_CHANCES + [NOTHING, HALF, ALL, (2, 3), (-1, 4)]
        for function in (least_tries, enough_tries):
            self.check_refusals(function, {"one": HALF, "other": (1, 3), "wish": (1, 4)}, [
                ("one", NO_CHANCES, BadWeight), ("other", NO_CHANCES + [HALF], BadWeight), ("wish", wishes, BadWeight),
            ])
            self.refused(BadWeight, function, HALF, HALF, (1, 4))


class Counting(unittest.TestCase, Refusing):
    """What counting tells is open: looked at is what comes of it."""

    def check(self, kind, surrounding, number_, tries, bar, *programs):
        made = counting(kind, surrounding, number_, tries, bar)
        self.check_equal(made, counting(kind=kind, surrounding=surrounding, number=number_, tries=tries, bar=bar))
        self.assertIs(True, is_surrounding(kind, made))
        self.assertEqual(N2, kind_of(made, [("h", kind)]))
        many, levels = measured(made)
        self.assertLessEqual(many, 300)
        self.assertLessEqual(levels, 50)
        for program in programs:
            closed = table(program)
            chances = chances_in(kind, surrounding, closed)
            expected = counted(chances, number_, tries, bar)
            self.check_equal(expected, chances_in(kind, made, closed))
            try:
                whole = put_in(kind, made, program)
            except BadExpression:
                continue
            self.check_equal(expected, chances_of(whole))
        return made

    def test_all_tries_and_bars(self):
        surrounding = call(H, draw((1, 2), (1, 4)))
        for tries in range(1, 9):
            for bar in range(1, tries + 1):
                for number_ in (0, 1):
                    self.check(F, surrounding, number_, tries, bar, TWICE, fun("x", N2, X), never(F))

    def test_numbers_of_all_kinds(self):
        for k in range(1, 7):
            ws = [(1, 6)] * k if k > 1 else [(1, 2)]
            for number_ in range(k):
                self.check(num(k), H, number_, 5, 3, draw(*ws), number(k - 1, k), never(num(k)))

    def test_h_never_once_and_oftener(self):
        twice = case(call(H, COIN), call(H, number(0, 2)), call(H, draw((1, 3), (1, 3))))
        for surrounding in (COIN, number(1, 2), never(N2), call(H, COIN), twice):
            self.check(F, surrounding, 1, 6, 2, TWICE, fun("x", N2, X))

    def test_names_that_are_bound_as_well(self):
        for x in ["a", "b", "c", "ca", "cb", "ct", "s", "count", "n", "x", "aa", "h"]:
            body = case(name(x), number(1, 2), name(x))
            self.check(N2, call(fun(x, N2, body), COIN), 1, 8, 4, COIN)
            if x != "h":
                self.check(N2, call(fun(x, N2, case(name(x), number(1, 2), H)), H), 0, 7, 4, draw((1, 3), (1, 2)))
                self.check(N2, take(x, H, case(name(x), H, name(x))), 0, 3, 2, draw((1, 3), (1, 2)))

    def test_drawn_surroundings(self):
        source = random.Random(461)
        told = 0
        while told < 60:
            kind = source.choice([N2, N3, F, to(N2, N2, N2), G])
            maker = Maker(source)
            surrounding = maker.make(source.choice([N1, N2, N3]), 3, {"h": kind})
            if measured(surrounding)[0] > 90 or measured(surrounding)[1] > 40:
                continue
            k = kind_of(surrounding, [("h", kind)])[1]
            tries = source.randrange(1, 9)
            program = maker.make(kind, 2)
            self.check(kind, surrounding, source.randrange(k), tries, source.randrange(1, tries + 1), program)
            told += 1

    def test_just_40_levels(self):
        def deep(levels):
            made = H
            for _ in range(levels - 1):
                made = take("x", made, X)
            return made
        self.assertEqual((79, 40), measured(deep(40)))
        for tries, bar in ((8, 4), (8, 5), (1, 1)):
            self.check(N2, deep(40), 1, tries, bar, COIN)
            self.refused(BadExpression, counting, N2, deep(41), 1, tries, bar)

    def test_just_90_nodes(self):
        def chain(ones, twos):
            # Each case of one way brings two nodes, each case of two ways three.
            made = H
            for _ in range(ones):
                made = case(number(0, 1), made)
            for _ in range(twos):
                made = case(made, number(0, 2), H)
            return made
        just, over = chain(1, 29), chain(0, 30)
        self.assertEqual((90, 91), (measured(just)[0], measured(over)[0]))
        self.assertLessEqual(measured(over)[1], 40)
        for tries in range(1, 9):
            for bar in range(1, tries + 1):
                self.check(N2, just, 0, tries, bar, COIN if tries > 7 else number(0, 2))
                self.refused(BadExpression, counting, N2, over, 0, tries, bar)

    def test_wide_cases_of_six(self):
        self.check(N6, H, 5, 8, 4, draw(*[(1, 6)] * 6))

    def test_refusals(self):
        right = {"kind": F, "surrounding": call(H, COIN), "number": 1, "tries": 4, "bar": 2}
        self.check_refusals(counting, right, [
            ("kind", KINDS_WRONG, BadKind), ("surrounding", NO_SURROUNDINGS, BadSurrounding),
            ("number", whole_numbers_but(0, 1), BadNumber), ("tries", whole_numbers_but(1, 8), BadNumber), ("bar", whole_numbers_but(1, 4), BadNumber),
        ])
        self.refused(BadNumber, counting, N1, H, 1, 4, 2)
        large = H
        for _ in range(45):
            large = take("x", large, X)
        self.refused(BadNumber, counting, N2, large, 2, 4, 2)
        self.refused(BadNumber, counting, N2, large, 1, 9, 2)
        self.refused(BadNumber, counting, N2, large, 1, 4, 5)
        self.refused(BadExpression, counting, N2, large, 1, 4, 4)


class Counted(unittest.TestCase, Refusing):
    def check(self, chances, number_, tries, bar, expected):
        self.check_calls(counted, {"chances": chances, "number": number_, "tries": tries, "bar": bar}, expected)

    def test_by_hand(self):
        self.check((HALF, HALF), 0, 1, 1, (HALF, HALF))
        self.check((HALF, (1, 4)), 0, 1, 1, ((1, 4), HALF))
        self.check((HALF, (1, 4)), 1, 2, 1, ((1, 4), (3, 8)))
        self.check(((1, 3), (1, 3), (1, 3)), 2, 2, 2, ((8, 9), (1, 9)))
        self.check((NOTHING,), 0, 8, 8, (NOTHING, NOTHING))
        self.check((ALL,), 0, 8, 3, (NOTHING, ALL))
        self.check((NOTHING, ALL), 0, 8, 3, (ALL, NOTHING))

    def test_sums(self):
        source = random.Random(462)
        for _ in range(200):
            parts = [source.randrange(0, 4) for _ in range(source.randrange(1, 7))]
            bottom = max(1, sum(parts) + source.choice([0, 0, 1, 5]))
            chances = [Fraction(part, bottom) for part in parts]
            number_, tries = source.randrange(len(parts)), source.randrange(1, 9)
            bar = source.randrange(1, tries + 1)
            p, r, g = chances[number_], sum(chances) - chances[number_], tries - bar
            ones = sum(comb(bar - 1 + i, i) * p ** bar * r ** i for i in range(g + 1))
            zeros = sum(comb(g + i, i) * p ** i * r ** (g + 1) for i in range(bar))
            told = counted(tuple(weight(part) for part in chances), number_, tries, bar)
            self.check_equal((weight(zeros), weight(ones)), told)
            if p + r == 1:
                self.check_equal(at_least(weight(p), tries, bar), told[1])
                self.assertEqual(1, frac(told[0]) + frac(told[1]))

    def test_refusals(self):
        wrong = strange_but((1, 0)) + [
            [HALF, HALF], (HALF, (2, 3)), ((-1, 2), ALL), (HALF, [1, 2]), ((1, 7),) * 7, (HALF, None), ((2, 4),), ((True, 1),), ((3, 2),), HALF,
        ]
        self.check_refusals(counted, {"chances": (HALF, (1, 4)), "number": 1, "tries": 4, "bar": 2}, [
            ("chances", wrong, BadChances), ("number", whole_numbers_but(0, 1), BadNumber),
            ("tries", whole_numbers_but(1, 8), BadNumber), ("bar", whole_numbers_but(1, 4), BadNumber),
        ])


if __name__ == "__main__":
    unittest.main()
