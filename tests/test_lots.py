"""lots.py: points 76, 77 and 78."""

import random
import unittest
from collections import Counter
from fractions import Fraction
from itertools import product
from math import factorial

from chancepoints.alike import alike
from chancepoints.errors import BadExpression, BadKind, BadTable, NoMaker, TooMany
from chancepoints.lots import first_short, made, masses
from chancepoints.meaning import table
from chancepoints.terms import is_program, kind_of
from tests.helping import Refusing, STRANGE
from tests.oracle import COIN, HALF, Maker, case, draw, frac, fun, measured, name, never, num, to, weight
from tests.shapes import X
from tests.test_kinds import WRONG as KINDS_WRONG
from tests.test_manners import TWICE
from tests.test_meaning import used, used_times
from tests.test_tables import wrong_tables

N1, N2, N3, N6 = num(1), num(2), num(3), num(6)
F = to(N2, N2)
ALL, NOTHING = (1, 1), (0, 1)
NO_LOT_KINDS = KINDS_WRONG + [N2, N1, to(N2, N2, N2), to(F, N2), to(N2, F), to(F, F)]


def point(*lot):
    return tuple((0, (), b) for b in lot)


def table_of(k, *rows):
    """The table with rows that are told by dicts from lots to weights."""
    return tuple(tuple((point(*lot), row[lot]) for lot in sorted(row)) for row in rows)


def row_sums(told):
    found = {}
    for row in told:
        for calls, worth in row:
            lot = tuple(b for _, _, b in calls)
            found[lot] = found.get(lot, Fraction(0)) + frac(worth)
    return found


def less(lot, other):
    """What is left of a lot without another one; None if that is no part of it."""
    left, taken = Counter(lot), Counter(other)
    if any(taken[b] > left[b] for b in taken):
        return None
    return tuple(sorted((left - taken).elements()))


def orders(lot):
    """In how many orders the numbers of a lot may come."""
    found = factorial(len(lot))
    for many in Counter(lot).values():
        found //= factorial(many)
    return found


def parts_of(lot):
    counts = Counter(lot)
    for told in product(*[range(counts[b] + 1) for b in sorted(counts)]):
        yield tuple(b for b, many in zip(sorted(counts), told) for _ in range(many))


def slow_masses(told):
    """The masses of all lots: the orders in which it comes, less those behind what answered ahead."""
    sums = row_sums(told)
    lots = {()} | {part for lot in sums for part in parts_of(lot)}
    found = []
    for lot in sorted(lots, key=lambda lot: (len(lot), lot)):
        mass = Fraction(orders(lot))
        for other, worth in sums.items():
            rest = less(lot, other)
            if rest is not None and other != lot:
                mass -= worth * orders(rest)
        found.append((lot, weight(mass), weight(sums.get(lot, 0))))
    return found


def slow_made(kind, told):
    """The program that point 77 tells."""
    k, j = kind[1][1], kind[2][1]
    known = {lot: (frac(mass), frac(part)) for lot, mass, part in slow_masses(told)}
    weights = {}
    for at, row in enumerate(told):
        for calls, worth in row:
            weights.setdefault(tuple(b for _, _, b in calls), [Fraction(0)] * j)[at] = frac(worth)

    def drawing(lot, whole):
        return draw(*[weight(part / whole) for part in weights[lot]])

    def behind(lot):
        if lot not in known:
            return never(num(j))
        mass, part = known[lot]
        goes_on = any(lot != other and less(other, lot) is not None for other in known)
        if not goes_on:
            return never(num(j)) if part == 0 else drawing(lot, mass)
        if part == mass and part != 0:
            return drawing(lot, part)
        asking = case(name("x"), *[behind(tuple(sorted(lot + (b,)))) for b in range(k)])
        if part == 0:
            return asking
        return case(draw(weight(part / mass), weight((mass - part) / mass)), drawing(lot, part), asking)
    return fun("x", num(k), behind(()))


def random_lot_table(source, k, j):
    """A table that is that of a program, or nearly so."""
    told = table(Maker(source, kinds=[num(k), num(j)], letters="xyz").make(to(num(k), num(j)), 3))
    if source.random() < 0.5:
        return told
    rows = [{tuple(b for _, _, b in calls): worth for calls, worth in row} for row in told]
    lots = [tuple(sorted(source.randrange(k) for _ in range(source.randrange(4)))) for _ in range(2)]
    rows[source.randrange(j)][source.choice(lots)] = weight(Fraction(source.randrange(1, 4), source.randrange(1, 6)))
    return table_of(k, *rows)


class Masses(unittest.TestCase, Refusing):
    def check(self, kind, told, expected):
        self.check_calls(masses, {"kind": kind, "table": told}, expected)

    def test_the_examples(self):
        two = table_of(2, {}, {(0, 1): (2, 1)})
        lots = [((), ALL, NOTHING), ((0,), ALL, NOTHING), ((1,), ALL, NOTHING)]
        self.check(F, two, lots + [((0, 1), (2, 1), (2, 1))])
        three = table_of(2, {}, {(0, 1): (3, 1)})
        self.check(F, three, lots + [((0, 1), (2, 1), (3, 1))])
        self.check_calls(first_short, {"kind": F, "table": two}, None)
        self.check_calls(first_short, {"kind": F, "table": three}, ((0, 1), (2, 1), (3, 1)))

    def test_without_points(self):
        self.check(F, ((), ()), [((), ALL, NOTHING)])
        self.check(to(N6, N1), ((),), [((), ALL, NOTHING)])
        self.check(F, table_of(2, {(): HALF}, {(): (1, 4)}), [((), ALL, (3, 4))])

    def test_lots_that_stand_in_no_row(self):
        told = table_of(3, {(0, 0, 2): (1, 5)}, {(2,): (1, 3), (0, 0, 2): (1, 10)})
        self.check(to(N3, N2), told, [
            ((), ALL, NOTHING), ((0,), ALL, NOTHING), ((2,), ALL, (1, 3)), ((0, 0), ALL, NOTHING), ((0, 2), (5, 3), NOTHING),
            ((0, 0, 2), (8, 3), (3, 10)),
        ])

    def test_masses_below_nothing(self):
        told = table_of(2, {(): (3, 1), (0, 0): (1, 1)}, {})
        self.check(F, told, [((), ALL, (3, 1)), ((0,), (-2, 1), NOTHING), ((0, 0), (-2, 1), ALL)])
        self.check_calls(first_short, {"kind": F, "table": told}, ((), ALL, (3, 1)))

    def test_drawn_tables(self):
        source = random.Random(761)
        seen = {True: 0, False: 0}
        for _ in range(300):
            k, j = source.choice([1, 2, 2, 3, 6]), source.choice([1, 2, 3])
            kind = to(num(k), num(j))
            told = random_lot_table(source, k, j)
            expected = slow_masses(told)
            self.check_equal(expected, masses(kind, told))
            short = [row for row in expected if frac(row[1]) < frac(row[2])]
            self.check_equal(short[0] if short else None, first_short(kind, told))
            seen[bool(short)] += 1
            if short:
                self.refused(NoMaker, made, kind, told)
        self.assertGreater(min(seen.values()), 40)

    def test_just_4000_lots(self):
        # Lots of a numbers 0 and b numbers 1 have (a + 1) * (b + 1) parts.
        def single(*counts):
            return table_of(len(counts), {tuple(b for b, many in enumerate(counts) for _ in range(many)): ALL}, {})
        self.assertEqual(4000, len(masses(F, single(39, 99))))
        self.assertEqual(4000, len(masses(to(N6, N2), single(1, 1, 1, 4, 4, 19))))
        self.assertEqual(4000, len(masses(to(N1, N2), single(3999))))
        # These two lots have 4000 + 1 parts in all.
        more = table_of(2, {(0,) * 39 + (1,) * 99: ALL, (0,) * 40: ALL}, {})
        for function in (masses, first_short, made):
            self.assertEqual(4000, self.refused(TooMany, function, F, more).most)
            self.assertEqual(4000, self.refused(TooMany, function, to(N1, N2), single(4000)).most)
            self.assertEqual(4000, self.refused(TooMany, function, to(N3, N2), single(900, 900, 900)).most)

    def test_many_points(self):
        lots = [(0,) * a + (1,) * b + (2,) * (40 - a - b) for a in range(41) for b in range(41 - a)]
        told = table_of(3, {lot: (1, 3) for lot in lots[:60]}, {})
        self.assertEqual(slow_masses(told)[:50], masses(to(N3, N2), told)[:50])

    def test_refusals(self):
        tables = wrong_tables() + STRANGE + [((),), ((), (), ()), table(fun("x", N3, X)), table_of(3, {(2,): ALL}, {})]
        for function in (masses, first_short, made):
            self.check_refusals(function, {"kind": F, "table": ((), ())}, [
                ("kind", NO_LOT_KINDS, BadKind), ("table", tables, BadTable),
            ])


class Made(unittest.TestCase, Refusing):
    def check(self, kind, told, expected):
        self.check_calls(made, {"kind": kind, "table": told}, expected)
        self.check_equal(told, table(expected))

    def test_by_hand(self):
        asks = case(X, never(N2), draw((0, 1), ALL)), case(X, draw((0, 1), ALL), never(N2))
        self.check(F, table_of(2, {}, {(0, 1): (2, 1)}), fun("x", N2, case(X, *asks)))
        self.check(F, ((), ()), fun("x", N2, never(N2)))
        self.check(F, table_of(2, {(): HALF}, {(): (1, 4)}), fun("x", N2, draw(HALF, (1, 4))))
        # All that there is answers ahead of the ask.
        half = table_of(2, {(): HALF, (1,): (1, 4)}, {(0,): (1, 8)})
        self.check(F, half, fun("x", N2, case(draw(HALF, HALF), draw(ALL, (0, 1)), case(X, draw((0, 1), (1, 4)), draw(HALF, (0, 1))))))

    def test_all_answers_ahead(self):
        # () answers with all there is, so what is told behind it has no mass, and no weight.
        self.check(F, table_of(2, {(): HALF}, {(): HALF}), fun("x", N2, draw(HALF, HALF)))
        answers = table_of(2, {(): ALL, (0,): (1, 9)}, {})
        self.assertEqual(((0,), NOTHING, (1, 9)), first_short(F, answers))
        told = table_of(2, {(0,): ALL, (1, 1): HALF}, {(1,): (1, 2)})
        self.check(F, told, slow_made(F, told))

    def test_drawn_programs(self):
        source = random.Random(771)
        told = 0
        for _ in range(300):
            k, j = source.choice([1, 2, 2, 3, 6]), source.choice([1, 2, 3])
            kind = to(num(k), num(j))
            program = Maker(source, kinds=[num(k), num(j)], letters="xyz").make(kind, source.choice([2, 3, 4]))
            try:
                closed = table(program)
            except TooMany:
                continue
            self.assertIsNone(first_short(kind, closed))
            expected = slow_made(kind, closed)
            many, levels = measured(expected)
            if many > 300 or levels > 50:
                self.refused(BadExpression, made, kind, closed)
                continue
            self.check_equal(expected, made(kind, closed))
            self.assertTrue(is_program(expected))
            self.assertEqual(kind, kind_of(expected))
            self.assertIs(True, alike(expected, program))
            told += 1
        self.assertGreater(told, 220)

    def test_tables_that_are_just_made(self):
        source = random.Random(772)
        told = 0
        for _ in range(200):
            k, j = source.choice([1, 2, 3]), source.choice([1, 2, 3])
            kind = to(num(k), num(j))
            closed = random_lot_table(source, k, j)
            if first_short(kind, closed) is None:
                try:
                    self.check_equal(closed, table(made(kind, closed)))
                    told += 1
                except BadExpression:
                    self.assertGreater(measured(slow_made(kind, closed))[0], 300)
        self.assertGreater(told, 100)

    def test_too_large(self):
        # It asks once a level: fun, 48 cases, and the draw.
        self.assertEqual(50, measured(made(to(N1, N1), table(used_times(4, 12))))[1])
        self.refused(BadExpression, made, to(N1, N1), table(used_times(7, 7)))
        self.refused(BadExpression, made, to(N1, N1), table(used_times(20, 20)))
        # Each ask has two ways: 2 ** 7 answers are too many.
        for many in (6, 7):
            lots = [(0,) * (many - ones) + (1,) * ones for ones in range(many + 1)]
            told = table_of(2, {lot: (orders(lot), 1) for lot in lots}, {})
            if many == 6:
                self.assertEqual(191, measured(made(F, told))[0])
            else:
                self.refused(BadExpression, made, F, told)

    def test_just_50_levels(self):
        # Each number of times x may be asked it answers with a little, so each ask is a level more.
        kind = to(N1, N2)
        for many in range(20, 30):
            lots = {(0,) * at: (1, 100) for at in range(many)}
            told = table_of(1, lots, {(0,) * many: (1, 3)})
            expected = slow_made(kind, told)
            if measured(expected)[1] <= 50:
                self.check(kind, told, expected)
            else:
                self.refused(BadExpression, made, kind, told)
        found = []
        for many in range(20, 50):
            # A mixture stands at the bottom, with asks alone ahead of it.
            told = table_of(1, {(0,) * many: HALF, (0,) * (many + 1): (1, 3)}, {})
            expected = slow_made(kind, told)
            found.append(measured(expected)[1])
            if found[-1] <= 50:
                self.check_equal(expected, made(kind, told))
            else:
                self.refused(BadExpression, made, kind, told)
        self.assertIn(50, found)
        self.assertIn(51, found)

    def test_just_300_nodes(self):
        lots = {
            299: [(0,), (0, 0, 0, 1, 2), (0, 0, 0, 2, 2), (0, 0, 1, 2), (0, 1), (1, 2, 2, 2, 2)],
            300: [(0, 0, 1, 1, 2), (0, 1), (0, 1, 1, 2), (1, 1, 1, 1), (1, 1, 2), (2,)],
            301: [(0, 0, 0, 0, 2), (0, 0, 0, 1, 2), (0, 1, 1, 1, 2), (2,), (2, 2, 2)],
        }
        kind = to(N3, N1)
        for many, answering in lots.items():
            told = table_of(3, {lot: (1, 1000) for lot in answering})
            expected = slow_made(kind, told)
            self.assertEqual(many, measured(expected)[0])
            if many <= 300:
                self.check(kind, told, expected)
            else:
                self.refused(BadExpression, made, kind, told)

    def test_examples_of_other_points(self):
        self.assertIs(True, alike(TWICE, made(F, table(TWICE))))
        self.assertEqual(table(fun("x", N1, used("x", 3))), table(made(to(N1, N1), table(fun("x", N1, used("x", 3))))))
        self.assertEqual(fun("x", N2, draw(HALF, HALF)), made(F, table(fun("x", N2, COIN))))


if __name__ == "__main__":
    unittest.main()
