"""coins.py: points 70 and 71."""

import random
import unittest
from fractions import Fraction
from math import comb

from chancepoints.alike import alike
from chancepoints.coins import alike_for_coins, forms, is_form, parting_coins, slope, value
from chancepoints.errors import BadCoins, BadForm, BadKind, BadMany, BadProgram, BadThing, TooMany
from chancepoints.meaning import table
from chancepoints.weighing import chances_with
from chancepoints.weights import is_weight
from tests.helping import Refusing, STRANGE
from tests.oracle import (
    COIN, HALF, Maker, call, case, draw, frac, fun, is_small, name, never, num, number, split, to, weight,
)
from tests.shapes import X
from tests.test_manners import NO_PROGRAMS, TWICE, composed

N1, N2, N3 = num(1), num(2), num(3)
F = to(N2, N2)
ALL = (1, 1)
BIG = 10 ** 79
Y = name("y")
IDENTITY = fun("x", N2, X)
NO_COIN_KINDS = [
    COIN, number(0, 1), never(N3), fun("x", N3, number(0, 2)), fun("f", F, COIN), fun("x", N2, fun("f", F, COIN)), never(to(*[N2] * 7, N2)),
    never(to(N2, N1, N2)), never(to(N1, N2)), never(to(*[N2] * 12)),
]
COIN_KINDS = [F, to(N2, N3), to(N2, N1), to(N2, N2, N2), to(N2, N2, N2, N3), to(*[N2] * 7)]
FORM = (((0, 0), (1, 2)), ((0, 3), (-1, 3)), ((1, 0), (2, 1)), ((2, 2), (-7, 5)))
NO_FORMS = [value_ for value_ in STRANGE if not (isinstance(value_, tuple) and value_ == ())] + [
    [((0,), ALL)], (((0,), ALL), ((0,), ALL)), (((1,), ALL), ((0,), ALL)), (((0,), (0, 1)),), (((0,), (2, 4)),), (((0,), [1, 2]),), (([0], ALL),),
    (((-1,), ALL),), (((4001,), ALL),), (((0, 0), ALL), ((1,), ALL)), (((), ALL),), (((0,) * 7, ALL),), (((True,), ALL),), (((0,), (True, 1)),),
    ((0, ALL),), (((0,), ALL, 1),), ((((0,),), ALL),), (((0,), 1),), ((("0",), ALL),), (((0,), None),), (((0, 1), ALL), ((0, 0), ALL)), (None,),
    (((0, 1), ALL), ((0, 1), HALF)), (((0,), (1, -2)),), (((0,), (1, 0)),), (((10 ** 79,), ALL),),
]


def coin(worth):
    return draw(weight(1 - frac(worth)), worth)


def slow_value(form, coins):
    found = Fraction(0)
    for powers, worth in form:
        part = frac(worth)
        for power, told in zip(powers, coins):
            part *= frac(told) ** power
        found += part
    return weight(found)


def slow_form(row, many):
    """The form of a row of a table, by sums over all ways to choose 1 or less a coin."""
    sums = {}
    for point, worth in row:
        parts = {(0,) * many: frac(worth)}
        for v, _, b in point:
            made = {}
            for powers, part in parts.items():
                up = powers[:v] + (powers[v] + 1,) + powers[v + 1:]
                made[up] = made.get(up, 0) + (part if b else -part)
                if not b:
                    made[powers] = made.get(powers, 0) + part
            parts = made
        for powers, part in parts.items():
            sums[powers] = sums.get(powers, 0) + part
    return tuple((powers, weight(sums[powers])) for powers in sorted(sums) if sums[powers])


def coin_program(source, kind, deep=4):
    while True:
        made = Maker(source, letters="xyzuvw", kinds=[N2, F], busy=source.random() < 0.5).make(kind, deep)
        if is_small(made):
            return made


def doubled(function, many):
    """The function done 2 ** many times, one after the other."""
    for _ in range(many):
        function = call(fun("f", F, fun("y", N2, call(name("f"), call(name("f"), Y)))), function)
    return function


def vanishing_at(places):
    """Two programs of a coin c whose chances of 0 differ by the product of c - v over all places v."""
    def part(left, worth, sign):
        if not left:
            return draw(weight(abs(worth)), (0, 1)) if worth * sign > 0 else never(N2)
        return case(X, part(left[1:], -worth * left[0], sign), part(left[1:], worth * (1 - left[0]), sign))
    return fun("x", N2, part(places, Fraction(1), 1)), fun("x", N2, part(places, Fraction(1), -1))


class Forms(unittest.TestCase, Refusing):
    def test_is_form(self):
        for many, right in (
            (1, ()), (6, ()), (1, (((0,), ALL),)), (1, (((0,), (-1, 2)), ((4000,), (BIG, BIG + 1)))), (2, FORM), (2, (((0, 4000), ALL), ((4000, 0), ALL))),
            (6, (((0, 0, 0, 0, 0, 1), ALL), ((0, 0, 0, 0, 1, 0), (-1, 1)))), (1, tuple(((at,), ALL) for at in range(4000))),
        ):
            self.check_calls(is_form, {"many": many, "value": right}, True)
            for other in range(1, 7):
                self.assertIs(right == () or other == many, is_form(other, right))

    def test_is_no_form(self):
        for value_ in NO_FORMS:
            for many in range(1, 7):
                self.assertIs(False, is_form(many, value_))
        self.assertIs(False, is_form(value=(((0,), ALL), ((0,), HALF)), many=1))
        self.assertIs(False, is_form(2, (((0, 4001), ALL),)))

    def test_bad_many(self):
        wholes = [value_ for value_ in STRANGE if not isinstance(value_, int) or value_ in (True, False, 0, -1, 7) or value_ > 6]
        wrong = [value_ for value_ in wholes if not (type(value_) is int and value_ == 1)]
        self.check_refusals(is_form, {"many": 2, "value": FORM}, [("many", wrong + [0, 7, -1, True, "1", (1,), 2 ** 70], BadMany)])

    def test_forms_by_hand(self):
        twice = [(((0,), ALL), ((1,), (-2, 1)), ((2,), ALL)), (((1,), (2, 1)), ((2,), (-1, 1)))]
        self.check_calls(forms, {"program": TWICE}, twice)
        self.check_calls(forms, {"program": IDENTITY}, [(((0,), ALL), ((1,), (-1, 1))), (((1,), ALL),)])
        self.check_calls(forms, {"program": fun("x", N2, draw((1, 3)))}, [(((0,), (1, 3)),)])
        self.check_calls(forms, {"program": never(to(N2, N2, N3))}, [(), (), ()])
        both = fun("x", N2, fun("y", N2, case(X, Y, number(0, 2))))
        self.check_calls(forms, {"program": both}, [
            (((0, 0), ALL), ((0, 1), (-1, 1)), ((1, 1), ALL)), (((0, 1), ALL), ((1, 1), (-1, 1))),
        ])
        even = fun("x", N2, case(X, X, case(X, number(1, 2), number(0, 2))))
        self.check_calls(forms, {"program": even}, [
            (((0,), ALL), ((1,), (-2, 1)), ((2,), (2, 1))), (((1,), (2, 1)), ((2,), (-2, 1))),
        ])

    def test_what_cancels_is_left_out(self):
        idle = fun("x", N2, case(X, COIN, COIN))
        self.check_calls(forms, {"program": idle}, [(((0,), HALF),), (((0,), HALF),)])
        turned = fun("x", N2, case(X, number(0, 1), number(0, 1)))
        self.check_calls(forms, {"program": turned}, [(((0,), ALL),)])

    def test_forms_of_random_programs(self):
        source = random.Random(701)
        for _ in range(150):
            kind = source.choice(COIN_KINDS)
            program = coin_program(source, kind)
            try:
                rows = table(program)
            except TooMany:
                self.refused(TooMany, forms, program)
                continue
            found = forms(program)
            many = len(split(kind)[0])
            self.check_equal([slow_form(row, many) for row in rows], found)
            for form in found:
                self.assertIs(True, is_form(many, form))
            for _ in range(3):
                coins = [weight(Fraction(source.randrange(0, 6), 5)) for _ in range(many)]
                chances = chances_with(program, [coin(part) for part in coins])
                self.check_equal(chances, tuple(value(form, coins) for form in found))

    def test_great_powers(self):
        one_of_many = doubled(fun("x", N2, case(X, never(N2), case(X, never(N2), number(1, 2)))), 3)
        self.assertEqual((((256,), ALL),), forms(one_of_many)[1])
        zero_of_many = doubled(fun("x", N2, case(X, case(X, number(0, 2), never(N2)), never(N2))), 3)
        expected = tuple(((at,), ((-1) ** at * comb(256, at), 1)) for at in range(257))
        self.check_equal(expected, forms(zero_of_many)[0])
        self.assertEqual((1, 2 ** 256), value(expected, [(1, 2)]))

    def test_refusals(self):
        self.check_refusals(forms, {"program": TWICE}, [("program", NO_PROGRAMS, BadProgram), ("program", NO_COIN_KINDS, BadKind)])
        self.assertEqual(4000, self.refused(TooMany, forms, composed(TWICE, 12)).most)


class Values(unittest.TestCase, Refusing):
    def test_by_hand(self):
        self.check_calls(value, {"form": (), "coins": [HALF]}, (0, 1))
        self.check_calls(value, {"form": (), "coins": [HALF] * 6}, (0, 1))
        self.check_calls(value, {"form": (((0,), (-2, 3)),), "coins": [(0, 1)]}, (-2, 3))
        self.check_calls(value, {"form": (((0,), ALL), ((1,), ALL)), "coins": ((0, 1),)}, ALL)
        self.check_calls(value, {"form": (((2,), ALL), ((3,), (-1, 1))), "coins": [(-1, 2)]}, (3, 8))
        self.check_calls(value, {"form": FORM, "coins": [(1, 2), (3, 1)]}, weight(Fraction(1, 2) - 9 + 1 - Fraction(7 * 9, 20)))
        self.check_calls(value, {"form": (((4000,), ALL),), "coins": [(-1, 1)]}, ALL)
        self.check_calls(value, {"form": (((3999,), (1, 2)),), "coins": [(2, 1)]}, (2 ** 3998, 1))
        self.check_calls(value, {"form": (((4000,), ALL),), "coins": [(1, 10)]}, (1, 10 ** 4000))

    def test_random_forms(self):
        source = random.Random(702)
        for _ in range(200):
            many = source.randrange(1, 7)
            form = random_form(source, many)
            coins = [weight(Fraction(source.randrange(-9, 10), source.randrange(1, 9))) for _ in range(many)]
            self.check_equal(slow_value(form, coins), value(form, coins))
            self.check_equal(slow_value(form, coins), value(coins=tuple(coins), form=form))

    def test_refusals(self):
        lists = [value_ for value_ in STRANGE] + [
            [], [HALF], [HALF] * 3, [HALF, None], [None, HALF], [HALF, (2, 4)], [HALF, [1, 2]], {HALF: 1, ALL: 2}, [HALF, (1, True)], (HALF,), [[HALF, HALF]],
            [HALF, 1], HALF, [HALF, (1, 0)],
        ]
        self.check_refusals(value, {"form": FORM, "coins": [HALF, HALF]}, [("form", NO_FORMS, BadForm), ("coins", lists, BadCoins)])
        for coins in STRANGE + [[], [HALF] * 7, (HALF,) * 7, [None]]:
            self.refused(BadCoins, value, (), coins)


def random_form(source, many, most=5):
    sums = {}
    for _ in range(source.randrange(0, 8)):
        powers = tuple(source.randrange(most) for _ in range(many))
        sums[powers] = source.choice([Fraction(source.randrange(1, 9), 7), Fraction(-source.randrange(1, 9), 3)])
    return tuple((powers, weight(sums[powers])) for powers in sorted(sums))


class Slopes(unittest.TestCase, Refusing):
    def test_by_hand(self):
        self.check_calls(slope, {"form": FORM, "place": 0}, (((0, 0), (2, 1)), ((1, 2), (-14, 5))))
        self.check_calls(slope, {"form": FORM, "place": 1}, (((0, 2), (-1, 1)), ((2, 1), (-14, 5))))
        self.check_calls(slope, {"form": (((0,), ALL),), "place": 0}, ())
        for place in range(6):
            self.check_calls(slope, {"form": (), "place": place}, ())
        self.check_calls(slope, {"form": (((1,), HALF), ((4000,), (1, 4000))), "place": 0}, (((0,), HALF), ((3999,), ALL)))

    def test_random_forms(self):
        source = random.Random(703)
        for _ in range(200):
            many = source.randrange(1, 7)
            form = random_form(source, many)
            place = source.randrange(many)
            sums = {}
            for powers, worth in form:
                if powers[place]:
                    less = powers[:place] + (powers[place] - 1,) + powers[place + 1:]
                    sums[less] = frac(worth) * powers[place]
            expected = tuple((powers, weight(sums[powers])) for powers in sorted(sums))
            self.check_equal(expected, slope(form, place))
            self.assertTrue(is_form(many, slope(form, place)))

    def test_how_often_a_coin_comes_to_its_numbers(self):
        source = random.Random(704)
        for _ in range(80):
            kind = source.choice(COIN_KINDS[:5])
            program = coin_program(source, kind, 3)
            rows = table(program)
            many = len(split(kind)[0])
            for worths in ([0, 1, Fraction(1, 3), Fraction(1, 2)], [1, 0, Fraction(2, 5), Fraction(3, 4)]):
                coins = [Fraction(part) for part in worths[:many]]
                for v in range(many):
                    for row, form in zip(rows, forms(program)):
                        means = [Fraction(0), Fraction(0)]
                        for point, part in row:
                            chance = frac(part)
                            for thing, _, b in point:
                                chance *= coins[thing] if b else 1 - coins[thing]
                            for b in range(2):
                                means[b] += chance * len([1 for call_ in point if call_[0] == v and call_[2] == b])
                        c = coins[v]
                        found = frac(value(slope(form, v), [weight(part) for part in coins]))
                        self.assertEqual((1 - c) * means[1] - c * means[0], c * (1 - c) * found)

    def test_refusals(self):
        places = [value_ for value_ in STRANGE if not (type(value_) is int and value_ in (0, 1))] + [2, 5, 6, -1, True, "0", (0,)]
        self.check_refusals(slope, {"form": FORM, "place": 1}, [("form", NO_FORMS, BadForm), ("place", places, BadThing)])
        for place in (6, -1, 10 ** 79, True, None):
            self.refused(BadThing, slope, (), place)
        self.refused(BadThing, slope, (((0,) * 6, ALL),), 6)
        for many in range(1, 6):
            form = (((2,) * many, ALL),)
            for place in range(6):
                if place < many:
                    self.assertEqual((((2,) * place + (1,) + (2,) * (many - place - 1), (2, 1)),), slope(form, place))
                else:
                    self.refused(BadThing, slope, form, place)
        self.assertEqual((), slope((((0,) * 6, ALL),), 5))


class AlikeForCoins(unittest.TestCase, Refusing):
    def check(self, one, other, expected):
        self.check_calls(alike_for_coins, {"one": one, "other": other}, expected)
        found = parting_coins(one, other)
        self.check_equal(found, parting_coins(one=one, other=other))
        if expected:
            self.assertIsNone(found)
            return
        number_, coins = found
        self.assertIsInstance(found, tuple)
        self.assertIsInstance(coins, list)
        for part in coins:
            self.assertTrue(is_weight(part) and 0 <= frac(part) <= 1)
        things = [coin(part) for part in coins]
        self.assertNotEqual(chances_with(one, things)[number_], chances_with(other, things)[number_])

    def test_by_hand(self):
        idle = fun("x", N2, number(0, 2))
        often = fun("x", N2, case(X, number(0, 2), number(0, 2)))
        self.assertFalse(alike(idle, often))
        self.check(idle, often, True)
        one = fun("x", N2, fun("y", N2, case(X, Y, number(0, 2))))
        other = fun("x", N2, fun("y", N2, case(Y, number(0, 2), case(X, number(1, 2), number(0, 2)))))
        self.check(one, other, True)
        self.check(TWICE, IDENTITY, False)
        self.check(TWICE, composed(TWICE, 2), False)
        self.check(never(to(N2, N3)), fun("x", N2, draw((0, 1), (0, 1), (0, 1))), True)
        # At 0, 1 and 1/2 they have the same chances.
        one = fun("x", N2, case(X, X, X))
        other = fun("x", N2, case(X, case(X, X, X), case(X, X, X)))
        self.check(one, IDENTITY, True)
        self.check(other, IDENTITY, True)
        most = fun("x", N2, case(X, case(X, number(0, 2), X), case(X, X, number(1, 2))))
        self.check(most, IDENTITY, False)
        deep = composed(most, 2)
        self.check(deep, IDENTITY, False)
        self.check(deep, most, False)

    def test_only_at_one_number(self):
        one = fun("x", N2, case(X, number(0, 3), number(1, 3)))
        other = fun("x", N2, case(X, number(0, 3), number(2, 3)))
        self.check(one, other, False)
        self.assertEqual(1, parting_coins(one, other)[0])

    def test_random_pairs(self):
        source = random.Random(711)
        seen = {True: 0, False: 0}
        for _ in range(200):
            kind = source.choice(COIN_KINDS)
            one, other = coin_program(source, kind, 2), coin_program(source, kind, 2)
            expected = forms(one) == forms(other)
            self.check(one, other, expected)
            seen[expected] += 1
            if alike(one, other):
                self.assertTrue(expected)
        self.assertGreater(min(seen.values()), 5)

    def test_differences_that_vanish_at_many_coins(self):
        simplest = [Fraction(1), Fraction(1, 2), Fraction(1, 3), Fraction(2, 3), Fraction(0)]
        for many in range(1, 6):
            one, other = vanishing_at(simplest[:many])
            self.check(one, other, False)
            self.assertNotIn(frac(parting_coins(one, other)[1][0]), simplest[:many])
            lifted = [fun("y", N2, part) for part in (one, other)]
            self.check(*lifted, False)

    def test_refusals(self):
        unlike = [never(to(N2, N3)), never(to(N2, N2, N2))]
        for function in (alike_for_coins, parting_coins):
            self.check_refusals(function, {"one": TWICE, "other": IDENTITY}, [
                ("one", NO_PROGRAMS, BadProgram), ("other", NO_PROGRAMS, BadProgram), ("other", NO_COIN_KINDS + unlike, BadKind),
            ])
            for part in NO_COIN_KINDS:
                self.refused(BadKind, function, part, part)
            self.assertEqual(4000, self.refused(TooMany, function, composed(TWICE, 12), IDENTITY).most)
            self.assertEqual(4000, self.refused(TooMany, function, IDENTITY, composed(TWICE, 12)).most)
            self.refused(BadKind, function, composed(TWICE, 12), never(to(N2, N3)))


if __name__ == "__main__":
    unittest.main()
