"""meaning.py: points 24 and 25, with points 21 and 2 (a)."""

import random
import unittest
from fractions import Fraction

from chancepoints.errors import BadProgram, TooMany
from chancepoints.meaning import table
from chancepoints.putting import handed
from chancepoints.tables import chances, is_table, never_table, number_table, own_table, size
from chancepoints.terms import is_program, kind_of
from tests.helping import Refusing, STRANGE
from tests.oracle import (
    COIN, KINDS, Maker, call, case, chances_of, draw, fun, name, never, num, number, table_of, take, to, weight,
)
from tests.shapes import X, wrong

N1, N2, N3, N6 = num(1), num(2), num(3), num(6)
F = to(N2, N2)
G = to(F, N2)
ALL = (1, 1)
C0, C1 = (0, (), 0), (0, (), 1)
EXAMPLE = fun("x", N2, case(X, X, number(1, 2)))
EXAMPLE_TABLE = ((((C0, C0), ALL),), (((C0, C1), ALL), ((C1,), ALL)))
NO_PROGRAMS = STRANGE + wrong() + [
    X, fun("x", N2, name("y")), call(number(0, 2), number(0, 2)), take("x", X, X), fun("x", to(*[N2] * 12), X),
]


def used(x, many):
    """An expression of num 1 in which the name x of a num 1 is used so many times."""
    made = name(x)
    for _ in range(many - 1):
        made = case(name(x), made)
    return made


def used_times(*parts):
    """A program of num 1 to num 1 that uses what it is handed as often as the product of parts."""
    made = X
    for part in parts:
        made = call(fun("y", N1, used("y", part)), made)
    return fun("x", N1, made)


# Of one point with 3999 and 4000 calls.
JUST = used_times(43, 31, 3)
OVER = used_times(20, 20, 10)


class Table(unittest.TestCase, Refusing):
    def check(self, program, expected):
        self.check_calls(table, {"program": program}, expected)

    def test_the_example(self):
        self.check(EXAMPLE, EXAMPLE_TABLE)

    def test_each_form(self):
        self.check(number(1, 3), number_table(1, 3))
        self.check(draw((1, 3), (0, 1), (1, 2)), ((((), (1, 3)),), (), (((), (1, 2)),)))
        self.check(never(F), never_table(F))
        self.check(fun("x", F, X), own_table(F))
        self.check(fun("x", N2, number(0, 1)), ((((), ALL),),))
        self.check(take("x", draw((1, 3), (1, 2)), X), ((((), (1, 3)),), (((), (1, 2)),)))
        self.check(case(draw((1, 3), (1, 2)), COIN, number(0, 2)), ((((), (2, 3)),), (((), (1, 6)),)))
        self.check(call(EXAMPLE, draw((1, 2), (1, 4))), ((((), (1, 4)),), (((), (3, 8)),)))
        look = (0, ((((((), ALL)),), ()),), 1)
        asks = fun("f", F, case(call(name("f"), number(0, 2)), never(N1), number(0, 1)))
        self.check(asks, (((((look,), ALL),)),))

    def test_things_are_numbered_from_outside(self):
        two = fun("x", N2, fun("y", N3, case(name("y"), X, X, number(0, 2))))
        expected = [((((0, (), 0), (1, (), 0)), ALL), (((0, (), 0), (1, (), 1)), ALL), (((1, (), 2),), ALL))]
        expected.append(((((0, (), 1), (1, (), 0)), ALL), (((0, (), 1), (1, (), 1)), ALL)))
        self.check(two, tuple(expected))

    def test_tables_within_calls(self):
        within = fun("x", N2, fun("f", F, call(name("f"), X)))
        inner = (((((0, (), 0),), ALL),), ((((0, (), 1),), ALL),))
        self.check(within, (((((1, (inner,), 0),), ALL),), ((((1, (inner,), 1),), ALL),)))
        # What is handed to h has a thing of its own, numbered behind those around it.
        given = fun("h", to(F, N1), fun("x", N2, call(name("h"), fun("y", N2, case(name("y"), X, number(0, 2))))))
        rows = (
            (((((1, (), 0), (2, (), 0))), ALL), (((2, (), 1),), ALL)),
            (((((1, (), 1), (2, (), 0))), ALL),),
        )
        self.check(given, (((((0, (rows,), 0),), ALL),),))

    def test_names_bound_again(self):
        self.check(fun("x", N3, fun("x", N2, X)), (((((1, (), 0),), ALL),), ((((1, (), 1),), ALL),)))
        self.check(fun("x", N2, take("x", X, X)), table_of(fun("x", N2, X), F))
        self.check(call(fun("x", N2, call(fun("x", N2, X), number(1, 2))), number(0, 2)), number_table(1, 2))
        self.check(fun("x", N2, call(fun("x", N2, X), X)), table_of(fun("y", N2, name("y")), F))
        self.check(take("x", number(1, 2), take("x", case(X, number(0, 3), number(2, 3)), X)), number_table(2, 3))
        self.check(case(take("x", number(1, 2), X), number(0, 2), COIN), table_of(COIN, N2))

    def test_functions_of_functions_of_functions(self):
        kind = to(to(to(F, N2), N2), N2)
        program = fun("u", to(G, N2), call(name("u"), fun("f", F, call(name("f"), call(name("f"), COIN)))))
        self.assertEqual(kind, kind_of(program))
        self.check(program, table_of(program, kind))
        twice = fun("f", F, fun("x", N2, call(name("f"), call(name("f"), X))))
        change = fun("x", N2, case(X, number(1, 2), number(0, 2)))
        twice_twice = fun("g", to(F, F), fun("f", F, call(name("g"), call(name("g"), name("f")))))
        self.check(call(twice_twice, twice, change), table_of(call(twice_twice, twice, change), F))
        self.check(call(twice_twice, twice, change, COIN), ((((), (1, 2)),), (((), (1, 2)),)))

    def test_against_runs_in_which_what_is_handed_is_asked(self):
        source = random.Random(41)
        for busy in (False, True):
            for _ in range(250):
                kind = source.choice(KINDS)
                program = Maker(source, busy=busy).make(kind, 3)
                if is_program(program):
                    expected = table_of(program, kind)
                    self.assertEqual(expected, table(program), program)
                    self.assertIs(True, is_table(kind, table(program)))

    def test_equal_programs_have_equal_tables_asked_again_too(self):
        source = random.Random(42)
        made = [Maker(source).make(source.choice(KINDS), 3) for _ in range(60)]
        first = [table(program) for program in made]
        self.assertEqual(first[::-1], [table(program) for program in made[::-1]])
        self.assertEqual(first, [table(eval(repr(program))) for program in made])

    def test_refusals(self):
        self.check_refusals(table, {"program": EXAMPLE}, [("program", NO_PROGRAMS, BadProgram)])


class Chances(unittest.TestCase):
    def test_all_branches(self):
        source = random.Random(43)
        for _ in range(300):
            k = source.choice([1, 2, 3])
            program = Maker(source, busy=True).make(num(k), 4)
            told = chances(table(program))
            self.assertEqual(chances_of(program, k), told)
            self.assertLessEqual(sum(Fraction(*part) for part in told), 1)

    def test_what_is_left_is_the_chance_of_no_answer(self):
        program = case(draw((1, 2), (1, 4)), draw((1, 2), (1, 3)), never(N2))
        self.assertEqual(((1, 4), (1, 6)), chances(table(program)))
        source = random.Random(44)
        for _ in range(60):
            program = Maker(source, whole=True).make(N2, 4)
            if "never" not in repr(program):
                self.assertEqual(1, sum(Fraction(*part) for part in chances(table(program))))

    def test_weights_of_many_digits(self):
        high = 10 ** 24 + 7
        part = (high, 3 * high + 1)
        program = call(fun("x", N2, case(X, case(X, X, number(1, 2)), number(1, 2))), draw(part, part))
        one = Fraction(*part)
        expected = (weight(one ** 3), weight(one + one ** 2 + one ** 2 * one))
        self.assertEqual(expected, chances(table(program)))
        often = call(fun("x", N1, used("x", 40)), draw((10 ** 24, 10 ** 24 + 1)))
        self.assertEqual((weight(Fraction(10 ** 24, 10 ** 24 + 1) ** 40),), chances(table(often)))


class Calls(unittest.TestCase):
    """HEART of [25]: the table of a call comes from both tables alone."""

    def test_one_argument_behind_the_other(self):
        source = random.Random(45)
        for _ in range(200):
            given, kind = source.choice(KINDS), source.choice(KINDS)
            if not is_program(never(("to", given, kind))):
                continue
            p = Maker(source, busy=True).make(("to", given, kind), 3)
            q = Maker(source, busy=True).make(given, 3)
            if is_program(call(p, q)):
                self.assertEqual(handed(("to", given, kind), table(p), table(q)), table(call(p, q)))

    def test_functions_and_numbers(self):
        kind = to(F, N2, N2)
        p = fun("f", F, fun("x", N2, call(name("f"), call(name("f"), X))))
        one = handed(kind, table(p), table(EXAMPLE))
        self.assertEqual(table(call(p, EXAMPLE)), one)
        self.assertEqual(table(call(p, EXAMPLE, COIN)), handed(F, one, table(COIN)))


class Sizes(unittest.TestCase, Refusing):
    def too_many(self, program):
        self.assertTrue(is_program(program))
        self.assertEqual(4000, self.refused(TooMany, table, program).most)
        self.assertEqual(4000, self.refused(TooMany, table, program=program).most)

    def test_just_four_thousand(self):
        told = table(JUST)
        self.assertEqual(4000, size(to(N1, N1), told))
        self.assertEqual((((((0, (), 0),) * 3999, ALL),),), told)

    def test_one_more(self):
        self.too_many(OVER)

    def test_of_several_points(self):
        half = fun("x", N1, fun("y", N1, case(COIN, used("x", 2), used("y", 2))))
        self.assertEqual(6, size(to(N1, N1, N1), table(half)))
        # Two points of 1998 calls each.
        many = call(half, call(used_times(37, 27), X), call(used_times(37, 27), name("y")))
        for weights, parts, expected in [
            ([(1, 1)], [many], 3998),
            ([(1, 2), (1, 4)], [many, number(0, 1)], 3999),
            ([(1, 2), (1, 4)], [many, X], 4000),
            ([(1, 2), (0, 1), (1, 4)], [many, number(0, 1), X], 4000),
        ]:
            program = fun("x", N1, fun("y", N1, case(draw(*weights), *parts)))
            self.assertEqual(expected, size(to(N1, N1, N1), table(program)))
        third = fun("x", N1, fun("y", N1, case(draw((1, 4), (1, 4), (1, 4)), many, number(0, 1), X)))
        self.too_many(third)

    def test_only_an_expression_within_is_too_large(self):
        within = OVER
        self.too_many(call(fun("f", to(N1, N1), number(0, 2)), within))
        self.too_many(case(number(0, 2), number(0, 1), call(within, number(0, 1))))
        self.too_many(fun("z", N1, take("q", call(within, name("z")), number(0, 2))))
        self.too_many(call(within, number(0, 1)))
        self.assertEqual(number_table(0, 2), table(call(fun("f", to(N1, N1), number(0, 2)), JUST)))
        self.assertEqual(number_table(0, 1), table(call(JUST, number(0, 1))))

    def test_a_name_with_a_large_table(self):
        kind = N6
        for _ in range(3):
            kind = ("to", kind, N6)
        self.assertEqual(3108, size(("to", kind, kind), table(fun("x", kind, X))))
        kind = ("to", kind, N6)
        self.too_many(fun("x", kind, X))
        self.too_many(call(fun("x", kind, number(0, 1)), call(fun("x", kind, X), never(kind))))
        self.assertEqual(number_table(0, 1), table(call(fun("x", kind, number(0, 1)), never(kind))))
        # So large that it could not be written down: it is told all the same.
        for _ in range(6):
            kind = ("to", kind, N6)
        self.too_many(fun("x", kind, call(X, never(kind[1]))))

    def test_large_tables_are_told_soon(self):
        # Each of these calls makes the number of uses 40 times what it was.
        self.too_many(used_times(*[40] * 3))


if __name__ == "__main__":
    unittest.main()
