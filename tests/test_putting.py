"""putting.py: point 23, on the tables of points 21 and 22."""

import random
import unittest
from fractions import Fraction

from chancepoints.errors import BadKind, BadTable, BadTables, BadWeights, TooMany
from chancepoints.meaning import table
from chancepoints.putting import handed, mixed
from chancepoints.tables import chances, is_table, never_table, number_table, own_table, size
from chancepoints.terms import is_program
from tests.helping import Refusing, STRANGE
from tests.oracle import COIN, KINDS, Maker, call, case, draw, frac, fun, name, num, number, table_of, to, weight
from tests.shapes import X
from tests.test_kinds import WRONG as KINDS_WRONG
from tests.test_tables import EXAMPLE, MIXED, wrong_tables

N1, N2, N3 = num(1), num(2), num(3)
F = to(N2, N2)
G = to(F, N2)
H = to(G, N2)
ALL = (1, 1)
HALVES = ((((), (1, 2)),), (((), (1, 2)),))


def uses(many, thing=0):
    """A table of num 1 with one point, of so many calls."""
    return (((((thing, (), 0),) * many, ALL),),)


class Handed(unittest.TestCase, Refusing):
    def check(self, kind, one, argument, expected):
        self.check_calls(handed, {"kind": kind, "table": one, "argument": argument}, expected)

    def test_numbers(self):
        self.check(F, EXAMPLE, HALVES, ((((), (1, 4)),), (((), (3, 4)),)))
        self.check(F, EXAMPLE, number_table(0, 2), number_table(0, 2))
        self.check(F, EXAMPLE, number_table(1, 2), number_table(1, 2))
        self.check(F, EXAMPLE, never_table(N2), never_table(N2))
        self.check(F, HALVES, never_table(N2), HALVES)
        self.check(F, own_table(N2), HALVES, HALVES)
        self.check(F, never_table(F), HALVES, never_table(N2))

    def test_like_points_are_added(self):
        two = ((((), (1, 3)), (((0, (), 0),), (1, 2)), (((0, (), 1),), (1, 5))), ())
        self.check(F, two, HALVES, ((((), weight(Fraction(1, 3) + Fraction(1, 4) + Fraction(1, 10))),), ()))

    def test_the_things_behind_are_numbered_one_less(self):
        kind = to(N2, N3, N1, N2)
        one = ((((((0, (), 1), (1, (), 2), (2, (), 0))), ALL),), ())
        self.check(kind, one, HALVES, (((((0, (), 2), (1, (), 0)), (1, 2)),), ()))
        deep = to(N2, F, N1)
        inner = (((((0, (), 0),), ALL),), ((((0, (), 1),), ALL),))
        changed = (((((0, (HALVES,), 0),), ALL),),)
        self.check(deep, (((((1, (inner,), 0),), ALL),),), HALVES, changed)

    def test_functions(self):
        self.check(G, table(fun("f", F, call(name("f"), COIN))), EXAMPLE, ((((), (1, 4)),), (((), (3, 4)),)))
        self.check(("to", F, F), own_table(F), EXAMPLE, EXAMPLE)
        asking = table(fun("f", F, call(name("f"), COIN)))
        self.check(("to", G, G), own_table(G), asking, asking)
        twice = fun("f", F, fun("x", N2, call(name("f"), call(name("f"), X))))
        change = fun("x", N2, case(X, number(1, 2), number(0, 2)))
        same = table(fun("x", N2, case(X, number(0, 2), number(1, 2))))
        self.check(("to", F, F), table(twice), table(change), same)
        # Handed the function that always comes to 0.
        self.check(to(F, N2, N2), MIXED, table(fun("x", N2, number(0, 2))), ((((), (1, 3)),), (((), (1, 6)),)))

    def test_it_is_the_table_of_the_call(self):
        source = random.Random(51)
        many = 0
        for _ in range(250):
            given, kind = source.choice(KINDS + [H]), source.choice(KINDS)
            p = Maker(source, busy=True).make(("to", given, kind), 3)
            q = Maker(source).make(given, 3)
            if is_program(call(p, q)):
                many += 1
                expected = table_of(call(p, q), kind)
                self.assertEqual(expected, handed(("to", given, kind), table(p), table(q)))
        self.assertGreater(many, 150)

    def test_arguments_one_behind_the_other(self):
        source = random.Random(52)
        kind = to(N2, F, N3, N2)
        for _ in range(80):
            p = Maker(source).make(kind, 4)
            given = [Maker(source).make(part, 2) for part in (N2, F, N3)]
            told = handed(kind, table(p), table(given[0]))
            told = handed(to(F, N3, N2), told, table(given[1]))
            told = handed(to(N3, N2), told, table(given[2]))
            self.assertEqual(table(call(p, *given)), told)

    def test_weights_of_any_size(self):
        heavy = ((((), (7, 1)),), (((), (10 ** 79, 3)),))
        high = Fraction(10 ** 79, 3)
        self.check(F, EXAMPLE, heavy, ((((), (49, 1)),), (((), weight(7 * high + high)),)))

    def test_size_of_just_four_thousand(self):
        # A function of num 1 is used so many times, and what stands behind it some times more.
        kind = to(to(N1, N1), N1, N1)
        for many, more, power, expected in [
            (43, 0, 93, 4000), (31, 0, 129, 4000), (63, 30, 63, 4000), (1, 0, 3999, 4000), (3999, 0, 1, 4000),
            (40, 0, 100, 4001), (63, 31, 63, 4001), (1, 0, 4000, 4001), (1, 1, 3999, 4001), (60, 0, 60, 3601),
        ]:
            one = (((((0, (uses(1, 1),), 0),) * many + ((1, (), 0),) * more, ALL),),)
            if expected <= 4000:
                told = handed(kind, one, uses(power))
                self.assertEqual(uses(many * power + more), told)
                self.assertEqual(expected, size(to(N1, N1), told))
            else:
                self.assertEqual(4000, self.refused(TooMany, handed, kind, one, uses(power)).most)

    def test_sizes_of_all_rows_are_taken_together(self):
        # f and then x: what comes is what f is, in two or in three rows.
        for k, many, told in ((2, 1999, True), (2, 2000, False), (3, 1332, True), (3, 1333, False)):
            kind = to(N1, num(k))
            rows = tuple(uses(many, 0)[0] for _ in range(k))
            look = tuple(((((0, (uses(1, 1),), number),), ALL),) for number in range(k))
            self.assertEqual(k * (many + 1), size(kind, rows))
            if told:
                self.assertEqual(rows, handed(to(kind, kind), look, rows))
                self.assertEqual(rows, mixed(kind, [(1, 2), (1, 2)], [rows, rows]))
            else:
                self.assertEqual(4000, self.refused(TooMany, handed, to(kind, kind), look, rows).most)
                self.assertEqual(4000, self.refused(TooMany, mixed, kind, [(1, 2), (1, 2)], [rows, rows]).most)

    def test_large_tables_that_come_to_little(self):
        kind = to(N1, N1, N1)
        large = uses(4500)
        self.assertEqual(4501, size(kind, large))
        self.check(kind, large, number_table(0, 1), number_table(0, 1))
        self.check(kind, large, never_table(N1), never_table(N1))
        # What is not used may be as large as it will.
        self.check(to(to(N1, N1), N1), ((((), ALL),),), uses(4500), number_table(0, 1))

    def test_refusals(self):
        right = {"kind": F, "table": EXAMPLE, "argument": HALVES}
        kinds = [("kind", KINDS_WRONG + [N2, num(6)], BadKind)]
        tables = [value for kind, value in wrong_tables() if kind == F]
        numbers = [value for kind, value in wrong_tables() if kind == N2] + [EXAMPLE]
        wrong = kinds + [("table", tables, BadTable), ("argument", numbers, BadTable)]
        self.check_refusals(handed, right, wrong)
        self.refused(BadTable, handed, G, EXAMPLE, EXAMPLE)
        self.refused(BadTable, handed, ("to", G, N2), never_table(H), ((),))


class Mixed(unittest.TestCase, Refusing):
    def check(self, kind, weights, tables, expected):
        self.check_calls(mixed, {"kind": kind, "weights": weights, "tables": tables}, expected)
        self.assertEqual(expected, mixed(kind, tuple(weights), tuple(tables)))

    def test_none_one_and_several(self):
        self.check(F, [], [], never_table(F))
        self.check(N3, [], [], never_table(N3))
        self.check(F, [(1, 1)], [EXAMPLE], EXAMPLE)
        self.check(N2, [(1, 2)], [HALVES], ((((), (1, 4)),), (((), (1, 4)),)))
        self.check(N2, [(1, 2), (1, 3)], [HALVES, number_table(0, 2)], ((((), (7, 12)),), (((), (1, 4)),)))
        self.check(N2, [(1, 1)] * 2, [number_table(1, 2), number_table(0, 2)], (number_table(0, 2)[0], number_table(1, 2)[1]))

    def test_weights_of_nothing(self):
        self.check(F, [(0, 1)], [EXAMPLE], never_table(F))
        self.check(F, [(0, 1), (1, 2)], [EXAMPLE, own_table(N2)], mixed(F, [(1, 2)], [own_table(N2)]))
        self.check(N2, [(0, 1), (0, 1)], [HALVES, HALVES], never_table(N2))

    def test_weights_above_one(self):
        self.check(N2, [(3, 1), (5, 2)], [HALVES, HALVES], ((((), (11, 4)),), (((), (11, 4)),)))
        self.check(N2, [(10 ** 79, 1)], [HALVES], ((((), (5 * 10 ** 78, 1)),),) * 2)

    def test_points_ascend(self):
        one = table(fun("x", N2, case(X, X, X)))
        made = mixed(F, [(1, 2), (1, 3), (1, 6)], [EXAMPLE, one, own_table(N2)])
        self.assertIs(True, is_table(F, made))
        for number_ in range(2):
            for point, part in made[number_]:
                expected = 0
                for share, told in zip([(1, 2), (1, 3), (1, 6)], [EXAMPLE, one, own_table(N2)]):
                    expected += frac(share) * frac(dict(told[number_]).get(point, (0, 1)))
                self.assertEqual(weight(expected), part)

    def test_a_draw_among_programs_has_the_mixture(self):
        source = random.Random(53)
        for _ in range(120):
            kind = source.choice(KINDS)
            k = source.choice([1, 2, 3, 4])
            made = [Maker(source).make(kind, 3) for _ in range(k)]
            weights = [weight(Fraction(part, 12)) for part in [3, 4, 0, 5]][:k]
            program = case(draw(*weights), *made)
            self.assertEqual(table(program), mixed(kind, weights, [table(part) for part in made]))

    def test_sizes(self):
        kind = to(N1, N1)
        tables = [uses(1999), uses(1998)]
        self.assertEqual(3999, size(kind, mixed(kind, [(1, 2), (1, 2)], tables)))
        three = tables + [number_table(0, 1)]
        self.assertEqual(4000, size(kind, mixed(kind, [(1, 2), (1, 4), (1, 4)], three)))
        four = tables + [uses(1)]
        self.assertEqual(4000, self.refused(TooMany, mixed, kind, [(1, 2), (1, 4), (1, 4)], four).most)
        self.assertEqual(4000, self.refused(TooMany, mixed, kind, [(1, 2)], [uses(4000)]).most)
        self.assertEqual(number_table(0, 1), mixed(kind, [(1, 1), (0, 1)], [number_table(0, 1), uses(4500)]))
        same = mixed(kind, [(1, 4)] * 4, [uses(3999)] * 4)
        self.assertEqual(uses(3999), same)

    def test_refusals(self):
        right = {"kind": F, "weights": [(1, 2)], "tables": [EXAMPLE]}
        strange = [part for part in STRANGE if part not in ([], ())]
        weights = strange + [(1, 2), [(-1, 2)], [(1, 2), None], [(2, 4)], [[1, 2]], [(True, 1)], [(1, True)], {(1, 2): 1}]
        tables = strange + [
            [], (), [EXAMPLE, EXAMPLE], EXAMPLE, [HALVES, EXAMPLE], [[EXAMPLE]], [list(EXAMPLE)], [None], {0: EXAMPLE}, [MIXED],
            [number_table(0, 1)],
        ]
        wrong = [("kind", KINDS_WRONG, BadKind), ("weights", weights, BadWeights), ("tables", tables, BadTables)]
        self.check_refusals(mixed, right, wrong)
        self.refused(BadTables, mixed, F, [], [EXAMPLE])
        self.refused(BadTables, mixed, F, [(0, 1)], [MIXED])
        self.refused(BadTables, mixed, F, [(0, 1)], [[]])
        for kind, value in wrong_tables():
            self.refused(BadTables, mixed, kind, [(1, 1)], [value])


class Chances(unittest.TestCase):
    def test_mixed_chances(self):
        told = chances(mixed(N2, [(1, 2), (1, 4)], [HALVES, number_table(1, 2)]))
        self.assertEqual(((1, 4), (1, 2)), told)


if __name__ == "__main__":
    unittest.main()
