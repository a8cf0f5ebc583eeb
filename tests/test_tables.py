"""tables.py: points 21, 22 and 26."""

import random
import unittest

from chancepoints.errors import BadKind, BadNumber, BadTable
from chancepoints.kinds import arguments, answer, is_kind
from chancepoints.tables import (
    by_things, chances, is_table, never_table, number_table, own_table, size, weight_at,
)
from tests.helping import Refusing, STRANGE, nested
from tests.oracle import KINDS, Maker, fun, name, num, table_of, table_size, to
from tests.test_kinds import RIGHT as KINDS_RIGHT
from tests.test_kinds import WRONG as KINDS_WRONG

N1, N2, N3 = num(1), num(2), num(3)
F = to(N2, N2)
G = to(F, N2)
ALL = (1, 1)
C0, C1 = (0, (), 0), (0, (), 1)
# The example of point 21: fun x num 2, case x of (x, 1).
EXAMPLE = ((((C0, C0), ALL),), (((C0, C1), ALL), ((C1,), ALL)))
NOTHING = ((), ())
COIN = ((((), (1, 2)),), (((), (1, 2)),))
ZERO = ((((), ALL),), ())


def one_call(*tables, thing=0, number=0, k=2):
    """A table with just one point, of one call, in row 0."""
    return ((((((thing, tuple(tables), number),), ALL)),),) + ((),) * (k - 1)


H = to(G, N2)
LOOK = one_call(thing=1)
RIGHT = [
    (N1, ((),)), (N1, ((((), ALL),),)), (N1, ((((), (7, 3)),),)), (N2, NOTHING), (N2, COIN), (N2, ZERO),
    (num(6), ((),) * 6), (F, EXAMPLE), (F, NOTHING), (F, COIN), (F, one_call()), (F, one_call(number=1)),
    (to(N2, N3, N2), one_call(thing=1, number=2)), (to(N2, N3, N2), one_call(thing=0, number=1)),
    (to(N2, N3, N2), ((((C0, C0, (1, (), 2)), ALL),), ())),
    (G, one_call(COIN)), (G, one_call(NOTHING)), (G, one_call(one_call(COIN))), (G, one_call(one_call(one_call(ZERO)))),
    (to(F, N2, N2), one_call(LOOK)), (to(F, N2, N2), one_call(one_call(LOOK), number=1)),
    (to(F, F, N2), one_call(one_call(COIN, thing=1))), (to(F, F, N2), one_call(one_call(COIN), thing=1, number=1)),
    (H, one_call(LOOK)), (H, one_call(one_call(LOOK))), (H, one_call(one_call(one_call(thing=2)))),
    (H, one_call(one_call(one_call(one_call(thing=3))))), (H, one_call(one_call(one_call(COIN)))),
    (F, ((((C0,), (10 ** 79, 3)),), (((C0,), (1, 2)),))),
    (to(*[N2] * 12), one_call(thing=10, number=1)),
]


def wrong_weights():
    return [
        (0, 1), (-1, 1), (2, 4), (1, 0), (1, -1), (True, 1), (1, True), [1, 1], 1, None, (1,), (1, 1, 1), "11", (), {},
    ]


def wrong_calls():
    """Things that are no call of a thing of the kind num 2, with just this one around."""
    return [
        (1, (), 0), (-1, (), 0), (0, (), 2), (0, (), -1), (0, (NOTHING,), 0), (0, (()), 0, 0), (0, ()), (0, [], 0),
        [0, (), 0], (True, (), 0), (False, (), 0), (0, (), True), (0, (), False), (None, (), 0), ("0", (), 0),
        (0, None, 0), (0, (), None), (0, {}, 0), ((0,), (), 0), None, 0, (), "call", (0, "", 0), {0: 0}, ((), (), ()),
    ]


def wrong_tables():
    """Pairs of a kind and what is no closed table of it."""
    found = [(F, value) for value in STRANGE]
    for part in wrong_weights():
        found.append((F, ((((C0,), part),), ())))
        found.append((N2, ((((), part),), ())))
        found.append((G, one_call(((((), part),), ()))))
    for part in wrong_calls():
        found.append((F, ((((part,), ALL),), ())))
        found.append((F, ((((C0, part), ALL),), ())))
        if part != (0, (NOTHING,), 0):
            found.append((G, one_call(one_call(((((part,), ALL),), ())))))
    found.extend([
        (N2, ()), (N2, ((),)), (N2, ((), (), ())), (N1, NOTHING), (N2, [(), ()]), (N2, ([], ())), (N2, ((), [])),
        (N2, (([(), ALL],), ())), (N2, ((([], ALL),), ())), (N2, (((),), ())), (N2, ((((), ALL, 1),), ())),
        (N2, ((((),),), ())), (N2, (((), ALL), ())), (N2, ((((), ALL), ((), ALL)), ())), (N2, "ab"), (N2, {}),
        (N2, ((((), (1, 2)), ((), (1, 2))), ())), (N2, one_call()), (N2, EXAMPLE),
        # the order of points and of calls
        (F, (EXAMPLE[0], EXAMPLE[1][::-1])), (F, (EXAMPLE[0] * 2, ())), (F, (((((C1, C0), ALL),)), ())),
        (F, ((((C0,), ALL), ((), ALL)), ())), (F, ((((C0,), ALL), ((C0,), (1, 2))), ())),
        (F, ((((C0, C1, C0), ALL),), ())), (F, ((((C1,), ALL), ((C0, C1), ALL)), ())),
        # things and tables at depth
        (G, one_call()), (G, one_call(COIN, COIN)), (G, one_call(COIN, thing=1)), (G, one_call(((),))),
        (G, one_call(LOOK)), (G, one_call(one_call())), (G, one_call(one_call(COIN), number=2)), (G, one_call(EXAMPLE)),
        (G, one_call(one_call(COIN, number=2))), (G, one_call(((), (), ()))), (G, one_call([(), ()])),
        (H, one_call(one_call(thing=2))), (H, one_call(one_call(one_call(thing=4)))), (H, one_call(one_call())),
        (H, one_call(one_call(LOOK, thing=1))), (H, one_call(one_call(thing=1, number=2))), (H, LOOK),
        (H, one_call(((((1, (), 0), (1, (), 0)), ALL), (((1, (), 0),), ALL)))),
        (H, one_call((((((1, (), 1),), ALL), (((1, (), 0),), ALL)), ()))),
        (H, one_call((((((1, (), 1), (1, (), 0)), ALL),), ()))),
        (H, one_call((((((1, (), 0),), ALL), (((1, (), 0),), ALL)), ()))),
        (H, ((((((0, [LOOK], 0),), ALL),), ()))), (G, ((((((0, [NOTHING], 0),), ALL),), ()))),
        (to(F, N2, N2), one_call(one_call(thing=2))), (to(F, N2, N2), one_call(LOOK, thing=1)),
        # points that differ at depth only, in a wrong order
        (G, (((((0, (COIN,), 0),), ALL), (((0, (ZERO,), 0),), ALL)), ())),
    ])
    return found


# A table of to(F, N2, N2), with things 0 of F and 1 of num 2.
MIXED = (
    (
        (((0, (COIN,), 0), (0, (COIN,), 1), (1, (), 0)), (1, 2)),
        (((0, (LOOK,), 0),), (1, 3)),
    ),
    (((), (1, 6)),),
)


class IsTable(unittest.TestCase, Refusing):
    def test_right_ones(self):
        for kind, value in RIGHT:
            self.check_calls(is_table, {"kind": kind, "value": value}, True)

    def test_wrong_ones(self):
        for kind, value in wrong_tables():
            self.check_calls(is_table, {"kind": kind, "value": value}, False)

    def test_each_right_one_is_wrong_for_other_kinds(self):
        self.assertIs(False, is_table(N3, COIN))
        self.assertIs(False, is_table(G, EXAMPLE))
        self.assertIs(False, is_table(H, one_call(COIN, thing=1)))
        self.assertIs(False, is_table(to(N1, N2), EXAMPLE))
        self.assertIs(True, is_table(to(N3, N2), EXAMPLE))
        self.assertIs(True, is_table(to(N2, G, N2), EXAMPLE))
        self.assertIs(False, is_table(to(G, N2, N2), EXAMPLE))

    def test_lists_in_the_place_of_tuples_at_each_depth(self):
        for kind, value in RIGHT:
            for changed in with_a_list(value):
                self.assertIs(False, is_table(kind, changed), changed)

    def test_nested_deep(self):
        table = LOOK
        for _ in range(45):
            table = one_call(table)
        self.assertIs(True, is_table(H, table))
        self.assertEqual(92, size(H, table))
        self.assertIs(False, is_table(H, one_call(table, COIN)))

    def test_made_by_running(self):
        source = random.Random(2)
        for _ in range(150):
            kind = source.choice(KINDS)
            self.assertIs(True, is_table(kind, table_of(Maker(source).make(kind, 3), kind)))

    def test_order_is_looked_at_only_where_it_can_be(self):
        self.assertIs(False, is_table(F, (((("a",), ALL), ((0,), ALL)), ())))
        self.assertIs(False, is_table(F, ((((None, 0), ALL),), ())))
        self.assertIs(False, is_table(F, (((({},), ALL), (([],), ALL)), ())))

    def test_refusals(self):
        self.check_refusals(is_table, {"kind": F, "value": EXAMPLE}, [("kind", KINDS_WRONG, BadKind)])


def with_a_list(value):
    """All values that come of a nested tuple if one tuple in it becomes a list."""
    if not isinstance(value, tuple):
        return []
    found = [list(value)]
    for at, part in enumerate(value):
        found.extend(value[:at] + (changed,) + value[at + 1:] for changed in with_a_list(part))
    return found


TABLE_REFUSALS = [("kind", KINDS_WRONG, BadKind)]


class Size(unittest.TestCase, Refusing):
    def test_sizes(self):
        for kind, value in RIGHT:
            self.check_calls(size, {"kind": kind, "table": value}, table_size(value))
        self.assertEqual(8, size(F, EXAMPLE))
        self.assertEqual(0, size(F, NOTHING))
        self.assertEqual(2, size(N2, COIN))
        # 3 points, 4 calls, and in the tables 2, 2 and 2.
        self.assertEqual(13, size(to(F, N2, N2), MIXED))

    def test_refusals(self):
        self.check_refusals(size, {"kind": F, "table": EXAMPLE}, TABLE_REFUSALS)
        for kind, value in wrong_tables():
            self.refused(BadTable, size, kind, value)
            self.refused(BadTable, size, kind=kind, table=value)


class WeightAt(unittest.TestCase, Refusing):
    def check(self, kind, table, number, point, expected):
        self.check_calls(weight_at, {"kind": kind, "table": table, "number": number, "point": point}, expected)

    def test_points_that_stand_there(self):
        for kind, value in RIGHT:
            for number, row in enumerate(value):
                for point, part in row:
                    self.check(kind, value, number, point, part)
        self.check(to(F, N2, N2), MIXED, 0, MIXED[0][1][0], (1, 3))

    def test_points_that_do_not(self):
        self.check(F, EXAMPLE, 1, (C0, C0), (0, 1))
        self.check(F, EXAMPLE, 0, (C0,), (0, 1))
        self.check(F, EXAMPLE, 0, (), (0, 1))
        self.check(F, EXAMPLE, 1, (C1, C0), (0, 1))

    def test_any_value_as_a_point(self):
        for value in STRANGE + [[C0, C0], [[0, (), 0]] * 2, (list(C0), C0), "point", (C0, (0, [], 0)), (C0, C0, None)]:
            if value != ():
                self.check(F, EXAMPLE, 0, value, (0, 1))
                self.check(N2, COIN, 0, value, (0, 1))

    def test_truths_are_no_wholes(self):
        self.check(F, EXAMPLE, 1, ((0, (), True),), (0, 1))
        self.check(F, EXAMPLE, 1, ((False, (), 1),), (0, 1))
        self.check(F, EXAMPLE, 0, ((0, (), 0), (0, (), False)), (0, 1))
        deep = one_call(one_call(COIN))
        point = ((0, (one_call(((((), (True, 2)),), (((), (1, 2)),))),), 0),)
        self.assertEqual(deep[0][0][0], point)
        self.check(G, deep, 0, point, (0, 1))
        self.check(G, deep, 0, ((0, (one_call(COIN),), 0),), (1, 1))

    def test_refusals(self):
        right = {"kind": F, "table": EXAMPLE, "number": 0, "point": ()}
        numbers = [None, True, False, -1, 2, "0", (0,), [0], {}, 10 ** 79, ()]
        self.check_refusals(weight_at, right, TABLE_REFUSALS + [("number", numbers, BadNumber)])
        for kind, value in wrong_tables():
            self.refused(BadTable, weight_at, kind, value, 0, ())
            self.refused(BadTable, weight_at, kind, value, 7, ())


class Chances(unittest.TestCase, Refusing):
    def test_chances(self):
        self.check_calls(chances, {"table": COIN}, ((1, 2), (1, 2)))
        self.check_calls(chances, {"table": NOTHING}, ((0, 1), (0, 1)))
        self.check_calls(chances, {"table": ((),)}, ((0, 1),))
        self.check_calls(chances, {"table": ZERO}, ((1, 1), (0, 1)))
        self.check_calls(chances, {"table": ((((), (7, 2)),),)}, ((7, 2),))
        self.check_calls(chances, {"table": ((((), (1, 6)),),) * 6}, ((1, 6),) * 6)

    def test_refusals(self):
        wrong = [value for value in STRANGE if value != ((),)] + [EXAMPLE, one_call(), ((),) * 7, [(), ()], ([], ())]
        wrong += [value for kind, value in wrong_tables() if kind == N2 and value not in (((),), ((), (), ()))]
        wrong = [value for value in wrong if value != ((), ())]
        self.check_refusals(chances, {"table": COIN}, [("table", wrong, BadTable)])


class SimpleTables(unittest.TestCase, Refusing):
    def test_number_table(self):
        for k in range(1, 7):
            for number in range(k):
                made = number_table(number, k)
                self.assertEqual(table_of(("number", number, k), num(k)), made)
                self.check_calls(number_table, {"number": number, "k": k}, made)
        self.assertEqual((((((), ALL)),),), number_table(0, 1))

    def test_number_table_refuses(self):
        strange = [None, True, False, "0", (), [], {}, (1,), -1, 10 ** 79]
        wrong = [("number", strange + [2, 3], BadNumber), ("k", strange + [0, 7], BadNumber)]
        self.check_refusals(number_table, {"number": 0, "k": 2}, wrong)
        self.refused(BadNumber, number_table, 6, 7)
        self.refused(BadNumber, number_table, 0, 0)
        self.refused(BadNumber, number_table, 1, 1)

    def test_never_table(self):
        for kind in KINDS_RIGHT:
            self.check_calls(never_table, {"kind": kind}, ((),) * answer(kind))
            self.assertIs(True, is_table(kind, never_table(kind)))
            self.assertEqual(0, size(kind, never_table(kind)))

    def test_own_table(self):
        look = ((((C0,), ALL),), (((C1,), ALL),))
        self.check_calls(own_table, {"kind": N2}, look)
        inner = (((((1, (), 0),), ALL),), ((((1, (), 1),), ALL),))
        self.check_calls(own_table, {"kind": F}, (((((0, (inner,), 0),), ALL),), ((((0, (inner,), 1),), ALL),)))
        for kind in KINDS + [to(N2, N3, N1, N2), to(F, G), to(to(to(G, N2), N2), N1), to(*[N2] * 6)]:
            made = own_table(kind)
            self.check_calls(own_table, {"kind": kind}, table_of(fun("x", kind, name("x")), ("to", kind, kind)))
            self.assertIs(True, is_table(("to", kind, kind), made))

    def test_own_table_of_large_size(self):
        kind = num(6)
        for _ in range(5):
            kind = ("to", kind, num(6))
        # Each row has a point and a call, and in this the table of the argument: 6 * (2 + ..).
        expected = 12
        for _ in range(5):
            expected = 6 * (2 + expected)
        self.assertEqual(expected, size(("to", kind, kind), own_table(kind)))

    def test_one_of_kind(self):
        wrong = [("kind", KINDS_WRONG, BadKind)]
        self.check_refusals(never_table, {"kind": N2}, wrong)
        large = [to(*[N2] * 7), to(*[N2] * 12), to(to(*[N2] * 6), N2)]
        self.check_refusals(own_table, {"kind": N2}, wrong + [("kind", large, BadKind)])
        self.assertIs(True, is_kind(to(*[N2] * 12)))


class ByThings(unittest.TestCase, Refusing):
    def test_counts(self):
        self.check_calls(by_things, {"kind": F, "table": EXAMPLE}, [(1, 2)])
        self.check_calls(by_things, {"kind": F, "table": NOTHING}, [(0, 0)])
        self.check_calls(by_things, {"kind": F, "table": COIN}, [(0, 0)])
        self.check_calls(by_things, {"kind": N2, "table": COIN}, [])
        self.check_calls(by_things, {"kind": to(F, N2, N2), "table": MIXED}, [(0, 2), (0, 1)])
        both = ((((C0, C0, (1, (), 2)), ALL),), (((C1, (1, (), 0), (1, (), 1)), ALL),))
        self.check_calls(by_things, {"kind": to(N2, N3, N2), "table": both}, [(1, 2), (1, 2)])
        self.check_calls(by_things, {"kind": to(N2, N3, N2), "table": (both[0], ())}, [(2, 2), (1, 1)])
        # Calls within tables of calls do not count.
        deep = one_call(one_call(one_call(LOOK)))
        self.check_calls(by_things, {"kind": H, "table": deep}, [(1, 1)])
        self.check_calls(by_things, {"kind": to(*[N2] * 12), "table": never_table(to(*[N2] * 12))}, [(0, 0)] * 11)

    def test_against_a_count(self):
        source = random.Random(12)
        for _ in range(100):
            kind = source.choice(KINDS)
            table = table_of(Maker(source).make(kind, 3), kind)
            points = [point for row in table for point, _ in row]
            expected = []
            for thing in range(len(arguments(kind))):
                many = [sum(call[0] == thing for call in point) for point in points] or [0]
                expected.append((min(many), max(many)))
            self.assertEqual(expected, by_things(kind, table))

    def test_refusals(self):
        self.check_refusals(by_things, {"kind": F, "table": EXAMPLE}, TABLE_REFUSALS)
        for kind, value in wrong_tables():
            self.refused(BadTable, by_things, kind, value)


class Deep(unittest.TestCase):
    def test_values_nested_very_deep_are_no_tables(self):
        for make in (lambda part: (part,), lambda part: ((part, (1, 1)),), lambda part: ((part, part),)):
            self.assertIs(False, is_table(F, nested(make, ())))


if __name__ == "__main__":
    unittest.main()
