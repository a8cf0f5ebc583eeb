"""weighing.py: point 42, with its fact by point 24."""

import random
import unittest
from fractions import Fraction

from chancepoints.errors import BadKind, BadProgram, BadThings, TooMany
from chancepoints.meaning import table
from chancepoints.tables import chances
from chancepoints.terms import kind_of
from chancepoints.weighing import chances_of, chances_with
from tests import oracle
from tests.helping import Refusing, STRANGE, snapshot
from tests.oracle import (
    COIN, Maker, call, case, draw, fun, is_small, name, never, num, number, split, take, to, weight,
)
from tests.shapes import X
from tests.test_manners import EXAMPLE, NO_PROGRAMS, TWICE, composed, fifths, taking

N1, N2, N3, N6 = num(1), num(2), num(3), num(6)
F = to(N2, N2)
G = to(F, N2)
H = to(G, N2)
IDENTITY = fun("x", N2, X)
KINDS = [
    to(N2), N3, F, to(N3, N2, N2), G, to(F, N3, N2), to(F, F, N2), H, to(G, N2, F, N2), to(to(N2, F), N2), to(to(F, F), N2),
]


class ChancesOf(unittest.TestCase, Refusing):
    def check(self, program, expected):
        self.check_calls(chances_of, {"program": program}, expected)

    def test_each_form(self):
        self.check(number(1, 3), ((0, 1), (1, 1), (0, 1)))
        self.check(draw((1, 3), (0, 1), (1, 2)), ((1, 3), (0, 1), (1, 2)))
        self.check(never(N2), ((0, 1), (0, 1)))
        self.check(EXAMPLE, ((1, 4), (3, 8)))
        self.check(take("x", draw((1, 2), (1, 4)), case(X, X, number(1, 2))), ((1, 2), (1, 4)))
        self.check(case(COIN, never(N1), number(0, 1)), ((1, 2),))
        self.check(call(fun("f", F, call(name("f"), call(name("f"), COIN))), TWICE), ((1, 16), (15, 16)))
        self.check(call(never(F), COIN), ((0, 1), (0, 1)))
        self.check(call(fun("x", N2, number(2, 3)), never(N2)), ((0, 1), (0, 1), (1, 1)))

    def test_names_bound_again(self):
        self.check(take("x", number(1, 2), take("x", case(X, number(0, 3), number(2, 3)), X)), ((0, 1), (0, 1), (1, 1)))
        self.check(call(fun("x", N2, call(fun("x", N2, X), X)), draw((1, 3), (1, 2))), ((1, 3), (1, 2)))
        handed = fun("x", N2, call(fun("f", F, fun("x", N2, call(name("f"), X))), fun("y", N2, X), number(0, 2)))
        self.check(call(handed, draw((1, 5), (2, 5))), ((1, 5), (2, 5)))

    def test_against_tables_and_branches(self):
        source = random.Random(421)
        told = 0
        for _ in range(600):
            kind = source.choice([N1, N2, N3])
            program = Maker(source, busy=source.random() < 0.7).make(kind, source.choice([2, 4, 6]))
            if not is_small(program):
                continue
            found = chances_of(program)
            try:
                self.check_equal(chances(table(program)), found)
                told += 1
            except TooMany:
                pass
        self.assertGreater(told, 400)
        for _ in range(200):
            program = Maker(source, busy=True).make(N2, 3)
            self.check_equal(oracle.chances_of(program, 2), chances_of(program))

    def test_tables_that_are_too_large(self):
        often = call(composed(TWICE, 13), draw((1, 2), (1, 4)))
        self.assertRaises(TooMany, table, often)
        zero, one = Fraction(1, 2), Fraction(1, 4)
        for _ in range(13):
            zero, one = zero * zero, zero * one + one
        self.check(often, (weight(zero), weight(one)))
        # Points of nine numbers of five, each asked for.
        letters = "abcdefghi"
        body = number(0, 2)
        for letter in letters:
            body = call(fun("y", N2, case(name("y"), name("y"), COIN)), case(name(letter), body, *[number(1, 2)] * 4))
        for letter in letters:
            body = fun(letter, num(5), body)
        program = call(body, *[fifths()] * 9)
        self.assertRaises(TooMany, table, program)
        zero = Fraction(1)
        for _ in letters:
            part = zero / 5
            zero = part * part + (1 - part) / 2
        self.check(program, (weight(zero), weight(1 - zero)))

    def test_what_is_used_thousands_of_times(self):
        half = fun("x", N2, case(X, number(0, 2), COIN))
        many = composed(composed(composed(half, 20), 20), 20)
        self.assertEqual((2 ** 8000 - 1, 2 ** 8000), chances_of(call(many, number(1, 2)))[0])
        function = half
        for _ in range(9):
            function = call(fun("f", F, fun("y", N2, call(name("f"), call(name("f"), name("y"))))), function)
        self.check(call(function, number(1, 2)), ((2 ** 512 - 1, 2 ** 512), (1, 2 ** 512)))

    def test_what_hangs_by_thousands_of_functions(self):
        # Each function of the row is told by the one ahead of it: none is run before the last.
        step = fun("f", F, fun("y", N2, call(name("f"), case(name("y"), number(1, 2), number(0, 2)))))
        twice = fun("g", to(F, F), fun("f", F, call(name("g"), call(name("g"), name("f")))))
        function = step
        for _ in range(11):
            function = call(twice, function)
        self.check(call(function, IDENTITY, draw((1, 3), (1, 2))), ((1, 3), (1, 2)))

    def test_much_that_is_taken(self):
        program = taking([draw(*[(1, 6)] * 6)] * 30, number(0, 2))
        self.check(program, ((1, 1), (0, 1)))
        program = taking([draw(*[(1, 12)] * 6)] * 30, case(X, *[number(1, 2)] * 6))
        self.check(program, ((0, 1), (1, 2 ** 30)))

    def test_refusals(self):
        functions = [IDENTITY, fun("f", F, COIN), never(to(N1, N1))]
        self.check_refusals(chances_of, {"program": COIN}, [
            ("program", NO_PROGRAMS, BadProgram), ("program", functions, BadKind),
        ])


class ChancesWith(unittest.TestCase, Refusing):
    def test_by_hand(self):
        self.check_calls(chances_with, {"program": TWICE, "things": [draw((1, 2), (1, 4))]}, ((1, 4), (3, 8)))
        self.check_calls(chances_with, {"program": TWICE, "things": (COIN,)}, ((1, 4), (3, 4)))
        self.check_calls(chances_with, {"program": COIN, "things": []}, ((1, 2), (1, 2)))
        self.check_calls(chances_with, {"program": COIN, "things": ()}, ((1, 2), (1, 2)))
        first = fun("x", N3, fun("f", F, case(X, call(name("f"), COIN), number(0, 2), number(1, 2))))
        things = [draw((1, 2), (1, 3), (1, 6)), TWICE]
        self.check_calls(chances_with, {"program": first, "things": things}, ((11, 24), (13, 24)))

    def test_random_things(self):
        source = random.Random(422)
        orders = {}
        for _ in range(400):
            kind = source.choice(KINDS)
            maker = Maker(source, kinds=[N2, N2, N3, F, G], busy=True)
            program = maker.make(kind, 3)
            things = [maker.make(part, 3) for part in split(kind)[0]]
            handed = call(program, *things)
            if not is_small(handed):
                continue
            found = chances_with(program, things)
            self.check_equal(chances_of(handed), found)
            try:
                self.check_equal(chances(table(handed)), found)
            except TooMany:
                continue
            orders[kind] = orders.get(kind, 0) + 1
        self.assertEqual(len(KINDS), len(orders))

    def test_as_large_as_there_is_no_expression(self):
        things = [taking([COIN] * 40, X)] * 11
        program = number(0, 3)
        for letter in "abcdefghijk":
            program = case(name(letter), program, number(2, 3))
        for letter in reversed("abcdefghijk"):
            program = fun(letter, N2, program)
        self.assertFalse(is_small(call(program, *things)))
        expected = ((1, 2 ** 11), (0, 1), (2 ** 11 - 1, 2 ** 11))
        self.check_calls(chances_with, {"program": program, "things": things}, expected)

    def test_things_are_not_changed_and_may_be_later(self):
        things = [TWICE, COIN]
        program = fun("f", F, fun("x", N2, call(name("f"), X)))
        before = snapshot(things)
        found = chances_with(program, things)
        self.assertEqual(before, things)
        things.clear()
        self.assertEqual(((1, 4), (3, 4)), found)

    def test_refusals(self):
        program = fun("f", F, fun("x", N2, call(name("f"), X)))
        right = [TWICE, COIN]
        self.assertEqual(to(F, N2, N2), kind_of(program))
        things = [value for value in STRANGE] + [
            [TWICE], [COIN], [COIN, TWICE], [TWICE, COIN, COIN], [TWICE, draw((1, 1))], [TWICE, number(0, 3)], [TWICE, X],
            [fun("x", N3, number(0, 2)), COIN], [None, COIN], [TWICE, None], {TWICE: 1, COIN: 2}, (TWICE,), [TWICE, TWICE],
            [fun("x", N2, fun("y", N2, X)), COIN], [[TWICE, COIN]], [list(TWICE), COIN], "ab",
        ]
        self.check_refusals(chances_with, {"program": program, "things": right}, [
            ("program", NO_PROGRAMS, BadProgram), ("things", things, BadThings),
        ])
        for value in STRANGE:
            if value != [] and value != ():
                self.refused(BadThings, chances_with, COIN, value)


if __name__ == "__main__":
    unittest.main()
