"""asking.py: points 58 and 59."""

import random
import unittest
from fractions import Fraction
from itertools import product

from chancepoints.asking import asked, folded, spread
from chancepoints.errors import BadKind, BadManner, BadProgram, BadTable, TooMany
from chancepoints.manners import run_by
from chancepoints.meaning import table
from chancepoints.tables import is_table, never_table, number_table, size
from chancepoints.terms import kind_of
from tests.helping import Refusing, STRANGE
from tests.oracle import (
    COIN, HALF, Maker, call, case, draw, frac, fun, is_small, name, never, nodes, num, number, split, take, to, weight,
)
from tests.shapes import X
from tests.test_kinds import WRONG as KINDS_WRONG
from tests.test_manners import MANNERS, NO_PROGRAMS, TWICE, WRONG_MANNERS, fifths, taking
from tests.test_meaning import JUST, OVER
from tests.test_tables import wrong_tables
from tests.trials import asked_trials

N1, N2, N3, N5, N6 = num(1), num(2), num(3), num(5), num(6)
F = to(N2, N2)
ALL = (1, 1)
Y = name("y")
PLAIN = [N1, N2, N3, F, to(N3, N2), to(N2, N3), to(N2, N2, N2), to(N3, N2, N3), to(N1, N2, N3, N2)]
NOT_PLAIN = [fun("f", F, number(0, 2)), fun("x", N2, fun("f", F, X)), never(to(to(N1, N1), N1)), fun("f", F, name("f"))]
WIDE = to(*[N2] * 12)


def c(thing, came):
    return (thing, (), came)


def plain_program(source, kind, deep):
    return Maker(source, False, [N2, N2, N3, F], "xyz", busy=True).make(kind, deep)


def bare_program(source, kind, deep, whole=False):
    """A random program without a call."""
    maker = Maker(source, whole, [N2], "xyzu")
    while True:
        made = maker.make(kind, deep)
        if not any(node[0] == "call" for _, node in nodes(made)):
            return made


def times_value(parts, row):
    """The sum of products that comes of a row if each call is the chance that parts tell."""
    found = Fraction(0)
    for point, part in row:
        worth = frac(part)
        for v, _, b in point:
            worth *= frac(parts[v][b])
        found += worth
    return weight(found)


class Asked(unittest.TestCase, Refusing):
    def check(self, program, manner, expected):
        self.check_calls(asked, {"program": program, "manner": manner}, expected)

    def test_by_hand(self):
        named = ((((c(0, 0), c(0, 0)), ALL),), (((c(0, 0), c(0, 1)), ALL), ((c(0, 1),), ALL)))
        once = ((((c(0, 0),), ALL),), (((c(0, 1),), ALL),))
        self.check(TWICE, "name", named)
        self.check(TWICE, "need", once)
        self.check(TWICE, "value", once)
        idle = fun("x", N2, number(1, 2))
        self.check(idle, "name", ((), (((), ALL),)))
        self.check(idle, "need", ((), (((), ALL),)))
        self.check(idle, "value", ((), (((c(0, 0),), ALL), ((c(0, 1),), ALL))))

    def test_numbers_are_asked_in_the_order_in_which_they_are_handed(self):
        second = fun("x", N3, fun("y", N2, Y))
        row = [tuple(((c(0, a), c(1, b)), ALL) for a in range(3)) for b in range(2)]
        self.check(second, "value", tuple(row))
        self.check(second, "need", ((((c(1, 0),), ALL),), (((c(1, 1),), ALL),)))

    def test_what_is_drawn_and_handed_on(self):
        # What y stands for is worked out by value though it is not used in one half.
        given = case(X, number(1, 2), draw((1, 3), (0, 1)))
        program = fun("x", N2, call(fun("y", N2, case(COIN, Y, X)), given))
        need = ((((c(0, 1),), (1, 6)),), (((c(0, 0),), HALF), ((c(0, 1),), HALF)))
        zero = ((c(0, 0),), HALF)
        self.check(program, "need", ((zero, ((c(0, 1),), (1, 6))), need[1]))
        self.check(program, "value", ((zero, ((c(0, 1),), (1, 6))), (zero, ((c(0, 1),), (1, 6)))))

    def test_kinds_without_arguments(self):
        for manner in MANNERS:
            self.check(draw((1, 3), (0, 1), (1, 2)), manner, ((((), (1, 3)),), (), (((), HALF),)))
            self.check(call(TWICE, draw((1, 2), (1, 4))), manner, tuple(
                (((), part),) for part in run_by(call(TWICE, draw((1, 2), (1, 4))), manner)))
            self.check(never(N2), manner, ((), ()))
            self.check(draw((0, 1), (0, 1)), manner, ((), ()))

    def test_eleven_arguments(self):
        wide_one = Y
        for letter in reversed("abcdefghiyj"):
            wide_one = fun(letter, N2, wide_one)
        for manner in ("name", "need"):
            self.check(wide_one, manner, ((((c(9, 0),), ALL),), (((c(9, 1),), ALL),)))
        found = asked(wide_one, "value")
        self.assertEqual([1024, 1024], [len(row) for row in found])
        self.check_equal(spread(WIDE, asked(wide_one, "name")), found)
        self.refused(TooMany, asked, never(to(*[N3] * 9, N1)), "value")
        self.check(never(to(*[N6] * 11, N1)), "need", ((),))

    def test_by_name_is_the_table(self):
        source = random.Random(581)
        told = 0
        for _ in range(150):
            kind = source.choice(PLAIN)
            program = plain_program(source, kind, source.choice([3, 5, 7]))
            if not is_small(program):
                continue
            try:
                expected = table(program)
            except TooMany:
                continue
            try:
                self.check_equal(expected, asked(program, "name"))
                told += 1
            except TooMany as error:
                self.assertEqual(4000, error.most)
        self.assertGreater(told, 100)

    def test_against_branches(self):
        source = random.Random(582)
        large = 0
        for _ in range(120):
            kind = source.choice(PLAIN)
            program = plain_program(source, kind, source.choice([3, 5, 6]))
            if not is_small(program):
                continue
            for manner in MANNERS:
                try:
                    found = asked(program, manner)
                except TooMany:
                    large += 1
                    continue
                expected, branches = asked_trials(program, manner, kind)
                self.check_equal(expected, found)
                self.assertTrue(is_table(kind, found))
                self.assertLessEqual(branches, 4000)
        self.assertLess(large, 30)

    def test_just_4000_branches(self):
        # Five ways to ask, and 5 * 5 * 32 to draw; x is asked by value alone.
        fifths_and_coins = [fifths()] * 2 + [COIN] * 5
        just = fun("y", N5, take("z", Y, taking(fifths_and_coins, number(0, 2))))
        for manner in MANNERS:
            self.assertEqual(4000, asked_trials(just, manner, to(N5, N2))[1])
            self.check(just, manner, (tuple(((c(0, a),), ALL) for a in range(5)), ()))
        with_x = fun("y", N5, fun("x", N2, take("z", Y, taking(fifths_and_coins[:-1], number(0, 2)))))
        for manner, many in (("name", 2000), ("need", 2000), ("value", 4000)):
            self.assertEqual(many, asked_trials(with_x, manner, to(N5, N2, N2))[1])
            asked(with_x, manner)
        self.refused(TooMany, asked, fun("x", N2, just), "value")
        for manner in ("name", "need"):
            asked(fun("x", N2, just), manner)

    def test_one_branch_above_4000(self):
        # Only of the last of 4000 ways one more comes.
        ways = [5, 5, 5, 2, 2, 2, 2, 2]
        for end, branches in ((number(1, 2), 4000), (case(COIN, number(0, 2), number(1, 2)), 4001)):
            body = end
            for letter, many in zip("abcdefgh", ways):
                body = case(name(letter), *[number(0, 2)] * (many - 1), body)
            for letter, many in zip("abcdefgh", ways):
                body = take(letter, fifths() if many == 5 else COIN, body)
            program = fun("u", N1, case(name("u"), body))
            for manner in MANNERS:
                self.assertEqual(branches, asked_trials(program, manner, to(N1, N2))[1])
                if branches == 4000:
                    self.check(program, manner, ((((c(0, 0),), (3999, 4000)),), (((c(0, 0),), (1, 4000)),)))
                else:
                    self.assertEqual(4000, self.refused(TooMany, asked, program, manner).most)

    def test_one_ask_above_4000(self):
        # The same with numbers that are asked instead of drawn.
        ways = [5, 5, 5, 2, 2, 2, 2, 2]
        for end, branches in ((number(1, 2), 4000), (case(COIN, number(0, 2), number(1, 2)), 4001)):
            body = end
            for letter, many in zip("abcdefgh", ways):
                body = case(name(letter), *[number(0, 2)] * (many - 1), body)
            for letter, many in zip("abcdefgh", ways):
                body = fun(letter, num(many), body)
            kind = kind_of(body)
            self.assertEqual(branches, asked_trials(body, "value", kind)[1])
            if branches == 4000:
                self.assertEqual([3999, 1], [len(row) for row in asked(body, "value")])
            else:
                self.refused(TooMany, asked, body, "value")
            self.check_equal(asked_trials(body, "need", kind)[0], asked(body, "need"))

    def test_nevers_are_branches_and_draws_of_nothing_are_none(self):
        ends = fun("x", N2, taking([fifths()] * 3 + [COIN] * 5, never(N2)))
        self.check(ends, "need", ((), ()))
        self.refused(TooMany, asked, ends, "value")
        self.refused(TooMany, asked, fun("x", N2, taking([fifths()] * 3 + [COIN] * 6, never(N2))), "name")
        none = fun("x", N2, taking([fifths()] * 3 + [COIN] * 6, draw((0, 1), (0, 1))))
        for manner in MANNERS:
            self.check(none, manner, ((), ()))
        huge = draw((0, 1), (0, 1))
        for _ in range(11):
            huge = fun("x", N2, huge)
        for manner in MANNERS:
            self.check(huge, manner, ((), ()))

    def test_a_large_table_in_a_run_of_one_branch(self):
        self.refused(TooMany, table, OVER)
        for program, calls in ((JUST, 3999), (OVER, 4000)):
            self.check(program, "name", ((((c(0, 0),) * calls, ALL),),))
            self.check(program, "need", ((((c(0, 0),), ALL),),))
            self.check(program, "value", ((((c(0, 0),), ALL),),))

    def test_sums_of_products_are_the_chances_of_what_is_handed_draws(self):
        source = random.Random(583)
        for _ in range(100):
            kind = source.choice(PLAIN)
            program = plain_program(source, kind, 4)
            given = [plain_program(source, part, 3) for part in split(kind)[0]]
            for manner in MANNERS:
                try:
                    found = asked(program, manner)
                    parts = [run_by(part, manner) for part in given]
                    expected = run_by(call(program, *given), manner)
                except TooMany:
                    continue
                self.check_equal(expected, tuple(times_value(parts, row) for row in found))

    def test_refusals(self):
        right = {"program": TWICE, "manner": "need"}
        wrong = [("program", NO_PROGRAMS, BadProgram), ("program", NOT_PLAIN, BadKind), ("manner", WRONG_MANNERS, BadManner)]
        self.check_refusals(asked, right, wrong)
        huge = fun("x", N2, taking([fifths()] * 6, number(0, 2)))
        self.refused(BadManner, asked, huge, "no")
        self.refused(TooMany, asked, huge, "name")


def slow_folded(rows):
    found = []
    for row in rows:
        sums = {}
        for point, part in row:
            calls = sorted(set(point))
            if len({v for v, _, _ in calls}) == len(calls):
                sums[tuple(calls)] = sums.get(tuple(calls), 0) + frac(part)
        found.append(tuple((point, weight(sums[point])) for point in sorted(sums)))
    return tuple(found)


def slow_spread(kind, rows):
    kinds = split(kind)[0]
    found = []
    for row in slow_folded(rows):
        sums = {}
        for told in product(*[range(part[1]) for part in kinds]):
            whole = tuple(c(v, b) for v, b in enumerate(told))
            for point, part in row:
                if set(point) <= set(whole):
                    sums[whole] = sums.get(whole, 0) + frac(part)
        found.append(tuple((point, weight(sums[point])) for point in sorted(sums)))
    return tuple(found)


def random_table(source, kind):
    kinds, k = split(kind)
    rows = []
    for _ in range(k):
        row = {}
        for _ in range(source.randrange(5)):
            calls = []
            for v, part in enumerate(kinds):
                calls += [c(v, source.randrange(part[1])) for _ in range(source.choice([0, 1, 1, 2, 3]))]
            row[tuple(sorted(calls))] = (source.randrange(1, 9), 7) if source.random() < 0.5 else ALL
        rows.append(tuple((point, row[point]) for point in sorted(row) if row[point] != (7, 7)))
    return tuple(rows)


def many_points(many):
    """A table of a num 6 that is asked often, with so many points, none of which folds away."""
    return tuple((tuple([c(0, 0)] * (at + 1)), ALL) for at in range(many))


class FoldedAndSpread(unittest.TestCase, Refusing):
    def test_folded_by_hand(self):
        rows = (
            (((), HALF), ((c(0, 0), c(0, 0)), ALL), ((c(0, 0), c(0, 0), c(0, 0)), HALF), ((c(0, 0), c(0, 1)), (7, 1))),
            (((c(0, 1), c(0, 1), c(1, 2)), (1, 3)), ((c(0, 1), c(1, 1), c(1, 2)), (1, 3))),
        )
        kind = to(N2, N3, N2)
        expected = ((((), HALF), ((c(0, 0),), (3, 2))), (((c(0, 1), c(1, 2)), (1, 3)),))
        self.check_calls(folded, {"kind": kind, "table": rows}, expected)
        spread_rows = (
            (((c(0, 0), c(1, 0)), (2, 1)), ((c(0, 0), c(1, 1)), (2, 1)), ((c(0, 0), c(1, 2)), (2, 1)),
             ((c(0, 1), c(1, 0)), HALF), ((c(0, 1), c(1, 1)), HALF), ((c(0, 1), c(1, 2)), HALF)),
            (((c(0, 1), c(1, 2)), (1, 3)),),
        )
        self.check_calls(spread, {"kind": kind, "table": rows}, spread_rows)

    def test_without_points_and_without_things(self):
        for kind in PLAIN:
            self.check_calls(folded, {"kind": kind, "table": never_table(kind)}, never_table(kind))
            self.check_calls(spread, {"kind": kind, "table": never_table(kind)}, never_table(kind))
        for function in (folded, spread):
            self.check_calls(function, {"kind": N3, "table": number_table(1, 3)}, number_table(1, 3))
        self.check_calls(spread, {"kind": to(*[N6] * 12), "table": ((),) * 6}, ((),) * 6)
        self.check_calls(folded, {"kind": to(*[N1] * 12), "table": ((((), HALF),),)}, ((((), HALF),),))
        whole = tuple(c(v, 0) for v in range(11))
        self.check_calls(spread, {"kind": to(*[N1] * 12), "table": ((((), HALF),),)}, (((whole, HALF),),))

    def test_random_tables(self):
        source = random.Random(591)
        for _ in range(300):
            kind = source.choice(PLAIN)
            rows = random_table(source, kind)
            self.assertTrue(is_table(kind, rows))
            self.check_equal(slow_folded(rows), folded(kind, rows))
            self.check_equal(slow_spread(kind, rows), spread(kind, rows))
            self.check_equal(folded(kind, rows), folded(kind, folded(kind, rows)))
            self.check_equal(spread(kind, rows), spread(kind, spread(kind, rows)))

    def test_bare_programs_do_as_their_tables_tell(self):
        source = random.Random(592)
        for _ in range(150):
            kind = source.choice(PLAIN)
            program = bare_program(source, kind, 3)
            rows = asked(program, "name")
            self.check_equal(table(program), rows)
            self.check_equal(folded(kind, rows), asked(program, "need"))
            self.check_equal(spread(kind, rows), asked(program, "value"))

    def test_just_4000_pairs_and_one_more(self):
        # 5 ** 3 * 2 ** 5 ways, in one row or shared by two.
        kind = to(N5, N5, N5, N2, N2, N2, N2, N2, N2)
        whole = spread(kind, ((((), ALL),), ()))
        self.assertEqual(4000, len(whole[0]))
        shared = ((((c(0, 0),), ALL), ((c(0, 1),), ALL)), (((c(0, 2),), ALL), ((c(0, 3),), ALL), ((c(0, 4),), ALL)))
        self.assertEqual([1600, 2400], [len(row) for row in spread(kind, shared)])
        last = tuple(c(v, 0) for v in range(8))
        alike = ((((), ALL), (last, ALL)), ())
        self.assertEqual(4000, len(spread(kind, alike)[0]))
        self.assertEqual(((last, (2, 1))), spread(kind, alike)[0][0])
        self.assertEqual(4000, self.refused(TooMany, spread, kind, ((((), ALL),), ((last, ALL),))).most)
        self.refused(TooMany, spread, to(*[N6] * 12), ((((), ALL),),) + ((),) * 5)
        self.refused(TooMany, spread, to(*[N2] * 12), ((((), ALL),), (((), ALL),)))
        self.assertEqual(2048, len(spread(to(*[N2] * 12), ((((), ALL),), ()))[0]))

    def test_any_size(self):
        rows = (many_points(90),)
        self.assertGreater(size(to(N1, N1), rows), 4000)
        for function in (folded, spread):
            self.check_calls(function, {"kind": to(N1, N1), "table": rows}, ((((c(0, 0),), (90, 1)),),))

    def test_what_is_alike_is_so_by_need_and_by_value(self):
        rows = ((((c(0, 0), c(0, 0)), ALL),), (((c(0, 1),), ALL),))
        others = ((((c(0, 0),), ALL),), (((c(0, 1),), ALL),))
        self.assertEqual(folded(F, rows), folded(F, others))
        self.assertEqual(spread(F, rows), spread(F, others))

    def test_refusals(self):
        kinds = [to(F, N2), to(N2, F, N2), to(to(N1, N1), N1)]
        right = {"kind": F, "table": table(TWICE)}
        tables = STRANGE + [value for kind, value in wrong_tables() if kind == F]
        wrong = [("kind", KINDS_WRONG + kinds, BadKind), ("table", tables, BadTable)]
        self.check_refusals(folded, right, wrong)
        self.check_refusals(spread, right, wrong)


if __name__ == "__main__":
    unittest.main()
