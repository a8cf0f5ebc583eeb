"""alike.py: points 27, 28, 29 and 30, with point 2 (b) as far as they bear it."""

import random
import unittest

from chancepoints.alike import (
    alike, alike_parts, chances_in, exchanged, first_unlike, is_surrounding, lines, put_in,
)
from chancepoints.errors import (
    BadExpression, BadKind, BadPath, BadProgram, BadSurrounding, BadTable, TooMany,
)
from chancepoints.meaning import table
from chancepoints.tables import chances, never_table, number_table, own_table, size, weight_at
from chancepoints.terms import is_expression, is_program, kind_of, part_at, paths, with_part
from tests.helping import Refusing, STRANGE
from tests.oracle import (
    COIN, KINDS, Maker, call, case, chances_of, draw, fun, name, never, nodes, num, number, table_of, table_size, take, to,
)
from tests.shapes import X, tall, wide, wrong
from tests.test_expressions import WRONG_PATHS
from tests.test_kinds import WRONG as KINDS_WRONG
from tests.test_meaning import JUST, NO_PROGRAMS, OVER, used_times
from tests.test_tables import wrong_tables

N1, N2, N3 = num(1), num(2), num(3)
F = to(N2, N2)
G = to(F, N2)
ALL = (1, 1)
H = name("h")
Y = name("y")
TWICE = fun("x", N2, case(X, X, number(1, 2)))
ONCE = fun("x", N2, X)
CHANGE = fun("x", N2, case(X, number(1, 2), number(0, 2)))
LARGE_KIND = to(*[N1] * 12)

SURROUNDINGS = [
    (F, call(H, COIN)), (F, number(0, 3)), (F, call(H, call(H, call(H, COIN)))), (N2, H), (N2, case(H, H, H)), (N2, never(N3)),
    (F, call(fun("f", G, call(name("f"), H)), fun("g", F, call(H, call(name("g"), COIN))))),
    (F, call(fun("h", N2, H), call(H, COIN))), (N2, take("h", H, case(H, H, number(0, 2)))),
    (F, take("h", call(H, COIN), H)), (F, call(fun("h", F, call(H, number(1, 2))), H)),
    (F, call(fun("x", N2, call(H, X)), COIN)), (G, call(H, fun("h", N2, H))),
    (LARGE_KIND, number(0, 1)), (LARGE_KIND, call(H, *[number(0, 1)] * 11)), (G, call(H, TWICE)),
]
NO_SURROUNDINGS = [
    (F, H), (F, X), (F, call(H, X)), (F, call(H, number(0, 3))), (N2, call(H, COIN)), (G, call(H, COIN)), (F, TWICE),
    (F, fun("h", F, call(H, COIN))), (F, fun("x", N2, call(H, X))), (F, take("h", H, number(0, 2))), (F, never(F)),
    (F, call(fun("x", N2, number(0, 1)), X)), (N3, case(H, H, H)), (F, take("x", H, X)), (LARGE_KIND, H),
]


class Surroundings(unittest.TestCase, Refusing):
    def test_surroundings(self):
        for kind, value in SURROUNDINGS:
            self.check_calls(is_surrounding, {"kind": kind, "value": value}, True)

    def test_no_surroundings(self):
        for kind, value in NO_SURROUNDINGS:
            self.check_calls(is_surrounding, {"kind": kind, "value": value}, False)
        for value in STRANGE + wrong():
            self.check_calls(is_surrounding, {"kind": F, "value": value}, False)

    def test_put_in(self):
        def check(kind, surrounding, program, expected):
            self.check_calls(put_in, {"kind": kind, "surrounding": surrounding, "program": program}, expected)
        check(F, call(H, COIN), TWICE, call(TWICE, COIN))
        check(F, number(0, 3), TWICE, number(0, 3))
        check(N2, case(H, H, H), COIN, case(COIN, COIN, COIN))
        check(F, call(fun("h", N2, H), call(H, COIN)), TWICE, call(fun("h", N2, H), call(TWICE, COIN)))
        check(N2, take("h", H, H), COIN, take("h", COIN, H))
        check(F, call(fun("h", F, call(H, COIN)), H), ONCE, call(fun("h", F, call(H, COIN)), ONCE))
        check(F, call(fun("x", N2, call(H, X)), COIN), ONCE, call(fun("x", N2, call(ONCE, X)), COIN))
        own = fun("h", N2, H)
        check(F, call(H, call(H, COIN)), own, call(own, call(own, COIN)))

    def test_what_comes_is_a_program(self):
        for kind, surrounding in SURROUNDINGS:
            made = put_in(kind, surrounding, never(kind))
            self.assertTrue(is_program(made))
            self.assertEqual(kind_of(surrounding, [("h", kind)]), kind_of(made))

    def test_put_in_where_what_comes_is_too_large(self):
        part = number(0, 2)
        for _ in range(20):
            part = case(part, number(0, 2), number(1, 2))
        self.assertEqual(61, len(nodes(part)))
        three = case(H, case(H, H, H), case(H, number(0, 2), number(0, 2)))
        self.refused(BadExpression, put_in, N2, three, part)
        four = case(H, case(H, H, H), number(0, 2))
        self.assertEqual(4 * 61 + 3, len(nodes(put_in(N2, four, part))))
        deep = H
        for _ in range(30):
            deep = case(deep, number(0, 2), number(1, 2))
        # 30 levels above h: with 21 levels in its place there is one too many.
        self.refused(BadExpression, put_in, N2, deep, part)
        self.assertTrue(is_program(put_in(N2, deep, part_at(part, (1,)))))

    def test_refusals(self):
        right = {"kind": F, "surrounding": call(H, COIN)}
        programs = NO_PROGRAMS + [COIN, number(0, 2), never(N2), never(to(N3, N2)), fun("x", N3, COIN)]
        no_surroundings = [value for kind, value in NO_SURROUNDINGS if kind == F] + STRANGE + wrong()
        wrongs = [("kind", KINDS_WRONG, BadKind), ("surrounding", no_surroundings, BadSurrounding)]
        self.check_refusals(is_surrounding, {"kind": F, "value": H}, wrongs[:1])
        self.check_refusals(put_in, {**right, "program": TWICE}, wrongs + [("program", programs, BadProgram)])
        tables = [value for kind, value in wrong_tables() if kind == F]
        self.check_refusals(chances_in, {**right, "table": table(TWICE)}, wrongs + [("table", tables, BadTable)])


class ChancesIn(unittest.TestCase, Refusing):
    def check(self, kind, surrounding, told, expected):
        self.check_calls(chances_in, {"kind": kind, "surrounding": surrounding, "table": told}, expected)

    def test_by_hand(self):
        self.check(F, call(H, draw((1, 2), (1, 4))), table(TWICE), ((1, 4), (3, 8)))
        self.check(F, number(0, 3), table(TWICE), (ALL, (0, 1), (0, 1)))
        self.check(N2, case(H, H, number(1, 2)), number_table(0, 2), (ALL, (0, 1)))
        self.check(N2, case(H, H, number(1, 2)), ((((), (1, 2)),), (((), (1, 3)),)), ((1, 4), (1, 2)))
        self.check(F, call(H, call(H, COIN)), table(CHANGE), ((1, 2), (1, 2)))
        self.check(F, call(H, COIN), never_table(F), ((0, 1), (0, 1)))

    def test_tables_that_are_of_no_program(self):
        self.check(N2, case(H, H, number(1, 2)), ((((), (3, 1)),), (((), (5, 2)),)), ((9, 1), (10, 1)))
        self.check(F, call(H, number(0, 2)), ((((), (7, 1)),), ()), ((7, 1), (0, 1)))

    def test_they_are_those_of_what_comes(self):
        source = random.Random(61)
        many = 0
        for _ in range(300):
            kind = source.choice(KINDS)
            maker = Maker(source, busy=True)
            surrounding = maker.make(num(source.choice([1, 2, 3])), 4, {"h": kind})
            program = Maker(source).make(kind, 3)
            self.assertTrue(is_surrounding(kind, surrounding))
            told = chances_in(kind, surrounding, table(program))
            try:
                made = put_in(kind, surrounding, program)
            except BadExpression:
                continue
            many += made != surrounding
            self.assertEqual(chances(table(made)), told)
            self.assertEqual(chances_of(made, len(told)), told)
        self.assertGreater(many, 100)

    def test_kinds_of_twelve_nums(self):
        self.check(LARGE_KIND, call(H, *[number(0, 1)] * 11), ((((), (1, 3)),),), ((1, 3),))
        self.check(LARGE_KIND, number(1, 2), never_table(LARGE_KIND), ((0, 1), ALL))

    def test_alike_programs_do_the_same_in_all_surroundings(self):
        one, other = TWICE, fun("z", N2, case(name("z"), case(name("z"), number(0, 2), number(1, 2)), number(1, 2)))
        self.assertTrue(alike(one, other))
        for kind, surrounding in SURROUNDINGS:
            if kind == F:
                self.assertEqual(chances_in(kind, surrounding, table(one)), chances_in(kind, surrounding, table(other)))
                self.assertEqual(table(put_in(kind, surrounding, one)), table(put_in(kind, surrounding, other)))

    def test_too_many(self):
        kind = to(N1, N1)
        large = call(fun("q", N1, number(0, 2)), call(OVER, number(0, 1)))
        self.assertTrue(is_surrounding(kind, large))
        self.assertEqual(4000, self.refused(TooMany, chances_in, kind, large, never_table(kind)).most)
        self.check(kind, call(H, call(JUST, number(0, 1))), own_table(N1), (ALL,))
        self.check(kind, call(H, number(0, 1)), (((((0, (), 0),) * 4500, ALL),),), (ALL,))


class Alike(unittest.TestCase, Refusing):
    PAIRS = [
        # A function that gives back what it is handed.
        (TWICE, fun("x", N2, call(ONCE, call(TWICE, X)))),
        (COIN, call(ONCE, COIN)),
        # Equal parts of a case, and of a draw.
        (fun("x", N2, number(0, 2)), fun("x", N2, case(COIN, number(0, 2), number(0, 2)))),
        (ONCE, fun("x", N2, case(X, number(0, 2), number(1, 2)))),
        (draw((1, 2), (1, 2)), case(draw((1, 4), (1, 4), (1, 2)), number(0, 2), number(0, 2), number(1, 2))),
        (TWICE, fun("x", N2, case(draw((1, 3), (2, 3)), call(TWICE, X), call(TWICE, X)))),
        # A take or an argument that is not used.
        (ONCE, fun("x", N2, take("y", number(0, 3), X))),
        (ONCE, fun("x", N2, call(fun("y", F, X), TWICE))),
        (COIN, call(fun("y", N2, COIN), never(N2))),
        # An argument that is handed on.
        (fun("f", F, call(name("f"), COIN)), fun("g", F, call(fun("f", F, call(name("f"), COIN)), name("g")))),
        (fun("f", F, name("f")), fun("f", F, fun("x", N2, call(name("f"), X)))),
        (fun("f", F, call(name("f"), COIN)), fun("f", F, call(fun("x", N2, call(name("f"), X)), COIN))),
        # The order of asking has no bearing.
        (
            fun("x", N2, fun("y", N2, case(X, case(Y, number(0, 3), number(1, 3)), case(Y, number(1, 3), number(2, 3))))),
            fun("x", N2, fun("y", N2, case(Y, case(X, number(0, 3), number(1, 3)), case(X, number(1, 3), number(2, 3))))),
        ),
        (TWICE, TWICE), (never(F), fun("x", N2, never(N2))), (never(N2), draw((0, 1), (0, 1))),
    ]
    UNLIKE = [
        (ONCE, TWICE, (0, ((0, (), 0),), ((1, 1), (0, 1)))),
        (number(0, 2), number(1, 2), (0, (), (ALL, (0, 1)))),
        (COIN, draw((1, 2), (1, 3)), (1, (), ((1, 2), (1, 3)))),
        (fun("x", N2, number(1, 2)), fun("x", N2, case(X, number(1, 2), number(1, 2))), (1, (), (ALL, (0, 1)))),
        (TWICE, fun("x", N2, case(X, X, case(X, number(1, 2), number(1, 2)))), None),
        (fun("x", N2, fun("y", N2, X)), fun("x", N2, fun("y", N2, Y)), (0, ((0, (), 0),), (ALL, (0, 1)))),
    ]

    def test_alike(self):
        for one, other in self.PAIRS:
            for pair in [(one, other), (other, one)]:
                given = dict(zip(["one", "other"], pair))
                self.check_calls(alike, given, True)
                self.check_calls(first_unlike, given, None)

    def test_unlike(self):
        for one, other, expected in self.UNLIKE:
            given = {"one": one, "other": other}
            self.check_calls(alike, given, False)
            if expected is not None:
                self.check_calls(first_unlike, given, expected)
                turned = expected[:2] + (expected[2][::-1],)
                self.check_calls(first_unlike, {"one": other, "other": one}, turned)

    def test_against_a_search(self):
        source = random.Random(62)
        found = 0
        for _ in range(300):
            kind = source.choice(KINDS)
            one = Maker(source, busy=True).make(kind, 3)
            other = Maker(source, busy=True).make(kind, source.choice([1, 3]))
            if not is_program(one) or not is_program(other):
                continue
            first, second = table_of(one, kind), table_of(other, kind)
            self.assertIs(first == second, alike(one, other))
            self.assertEqual(self.search(kind, first, second), first_unlike(one, other))
            found += first == second
        self.assertGreater(found, 5)

    def search(self, kind, first, second):
        for number_, rows in enumerate(zip(first, second)):
            for point in sorted({point for row in rows for point, _ in row}):
                pair = (weight_at(kind, first, number_, point), weight_at(kind, second, number_, point))
                if pair[0] != pair[1]:
                    return (number_, point, pair)
        return None

    def test_refusals(self):
        for function in (alike, first_unlike):
            wrong_programs = [("one", NO_PROGRAMS, BadProgram), ("other", NO_PROGRAMS, BadProgram)]
            self.check_refusals(function, {"one": ONCE, "other": TWICE}, wrong_programs)
            for one, other in [(ONCE, COIN), (number(0, 2), number(0, 3)), (never(F), never(G)), (OVER, COIN)]:
                self.refused(BadKind, function, one, other)
                self.refused(BadKind, function, other=one, one=other)
            self.assertEqual(4000, self.refused(TooMany, function, OVER, JUST).most)
            self.assertEqual(4000, self.refused(TooMany, function, JUST, OVER).most)
        self.assertIs(False, alike(JUST, used_times(43, 31)))


class Exchanged(unittest.TestCase, Refusing):
    def check(self, program, path, part, expected):
        self.check_calls(exchanged, {"program": program, "path": path, "part": part}, expected)
        self.assertEqual(with_part(program, path, part), expected[0])

    def test_alike_and_unlike(self):
        program = call(TWICE, COIN)
        self.check(program, (2,), draw((1, 2), (1, 2)), (program, True))
        self.check(program, (2,), call(ONCE, COIN), (call(TWICE, call(ONCE, COIN)), True))
        self.check(program, (2,), number(0, 2), (call(TWICE, number(0, 2)), False))
        self.check(program, (1,), ONCE, (call(ONCE, COIN), False))
        self.check(program, (), draw((1, 4), (3, 4)), (draw((1, 4), (3, 4)), True))
        self.check(program, (1, 3, 2, 0), number(0, 2), (call(fun("x", N2, case(X, number(0, 2), number(1, 2))), COIN), False))

    def test_names_bound_around(self):
        program = fun("x", N2, fun("y", F, take("z", X, call(Y, name("z")))))
        z = name("z")
        self.check(program, (3, 3, 3, 2), X, (fun("x", N2, fun("y", F, take("z", X, call(Y, X)))), False))
        self.check(program, (3, 3, 3, 2), call(ONCE, z), (with_part(program, (3, 3, 3, 2), call(ONCE, z)), True))
        self.check(program, (3, 3, 2), call(Y, X), (with_part(program, (3, 3, 2), call(Y, X)), False))
        # Not bound there: z in what is taken, or of another kind.
        for path, part in [((3, 3, 2), z), ((3,), Y), ((3, 3, 3, 1), z), ((3, 3, 3, 2), Y), ((), X), ((3, 3, 2), name("q"))]:
            self.refused(BadExpression, exchanged, program, path, part)

    def test_the_innermost_binding_counts(self):
        program = fun("x", N3, fun("x", N2, case(X, number(0, 2), X)))
        self.check(program, (3, 3, 2, 0), X, (fun("x", N3, fun("x", N2, case(X, X, X))), False))
        three = case(X, number(0, 2), number(0, 2), number(0, 2))
        self.refused(BadExpression, exchanged, program, (3, 3, 2, 0), three)
        outer = fun("x", N3, fun("y", N2, case(Y, number(0, 2), Y)))
        self.check(outer, (3, 3, 2, 0), three, (with_part(outer, (3, 3, 2, 0), three), False))
        taken = take("x", number(0, 3), take("x", case(X, *[number(0, 2)] * 3), X))
        self.check(taken, (3, 3), number(0, 2), (take("x", number(0, 3), take("x", case(X, *[number(0, 2)] * 3), number(0, 2))), True))

    def test_wrong_kinds(self):
        program = call(TWICE, COIN)
        for path, part in [((2,), number(0, 3)), ((1,), COIN), ((1,), fun("x", N3, COIN)), ((), TWICE), ((1, 3, 1), number(0, 1))]:
            self.refused(BadExpression, exchanged, program, path, part)

    def test_too_large(self):
        deep = number(0, 2)
        for _ in range(49):
            deep = case(deep, number(0, 2), number(1, 2))
        low = (1,) * 49
        self.assertEqual(number(0, 2), part_at(deep, low))
        self.check(deep, low, number(1, 2), (with_part(deep, low, number(1, 2)), False))
        self.refused(BadExpression, exchanged, deep, low, call(ONCE, number(0, 2)))
        part = part_at(deep, (1,) * 10)
        self.assertEqual(118, len(nodes(part)))
        many = case(COIN, part, part)
        self.refused(BadExpression, exchanged, many, (1,), call(fun("q", N2, COIN), part))
        self.assertTrue(is_expression(wide(300)) and is_expression(tall(50)))

    def test_equal_tables_with_the_things_around_are_enough(self):
        source = random.Random(63)
        many = 0
        for _ in range(80):
            program = Maker(source, busy=True).make(source.choice(KINDS), 3)
            for path, other in alike_parts(program)[:6] if is_program(program) else []:
                for here, there in [(path, other), (other, path)]:
                    made, same = exchanged(program, here, part_at(program, there))
                    self.assertIs(True, same)
                    self.assertEqual(table(program), table(made))
                    many += 1
        self.assertGreater(many, 40)

    def test_refusals(self):
        right = {"program": call(TWICE, COIN), "path": (2,), "part": COIN}
        strange_paths = [path for path in WRONG_PATHS if path not in [(1, 3, 1), (1, 3, 2, 0)]]
        wrongs = [
            ("program", NO_PROGRAMS, BadProgram), ("path", strange_paths, BadPath),
            ("part", STRANGE + wrong() + [X, number(0, 3)], BadExpression),
        ]
        self.check_refusals(exchanged, right, wrongs)
        program = call(fun("f", to(N1, N1), number(0, 1)), JUST)
        self.assertEqual((call(program[1], JUST), True), exchanged(program, (2,), JUST))
        self.assertEqual(4000, self.refused(TooMany, exchanged, program, (2,), OVER).most)
        self.assertEqual(4000, self.refused(TooMany, exchanged, call(program[1], OVER), (2,), JUST).most)
        self.refused(BadExpression, exchanged, call(program[1], OVER), (2,), COIN)


class Lines(unittest.TestCase, Refusing):
    def test_by_hand(self):
        expected = {(): 8, (3,): 8, (3, 1): 4, (3, 2, 0): 4, (3, 2, 1): 1}
        self.check_calls(lines, {"program": TWICE}, expected)
        self.check_calls(lines, {"program": number(0, 1)}, {(): 1})
        self.check_calls(lines, {"program": never(F)}, {(): 0})
        self.check_calls(lines, {"program": take("x", COIN, case(X, X, COIN))}, {
            (): 2, (2,): 2, (3,): 7 + 2 * 2 - 2 + 1, (3, 1): 4, (3, 2, 0): 4, (3, 2, 1): 2,
        })

    def test_ascending_and_of_closed_parts(self):
        source = random.Random(64)
        for _ in range(80):
            kind = source.choice(KINDS)
            program = Maker(source).make(kind, 4)
            told = lines(program)
            self.assertEqual(paths(program), list(told))
            self.assertEqual(table_size(table_of(program, kind)), told[()])
            for path, part in nodes(program):
                if is_program(part):
                    self.assertEqual(size(kind_of(part), table(part)), told[path])

    def test_refusals(self):
        self.check_refusals(lines, {"program": COIN}, [("program", NO_PROGRAMS, BadProgram)])
        for function in (lines, alike_parts):
            self.assertEqual(4000, self.refused(TooMany, function, OVER).most)
        self.assertEqual(4000, lines(JUST)[()])


class AlikeParts(unittest.TestCase, Refusing):
    def check(self, program, expected):
        self.check_calls(alike_parts, {"program": program}, expected)

    def test_parts_that_stand_twice(self):
        self.check(TWICE, [((3, 1), (3, 2, 0))])
        self.check(case(COIN, COIN, COIN), [((), (1,)), ((), (2, 0)), ((), (2, 1)), ((1,), (2, 0)), ((1,), (2, 1)), ((2, 0), (2, 1))])
        self.check(number(0, 1), [])
        self.check(call(ONCE, number(0, 2)), [((), (2,))])

    def test_in_other_words(self):
        program = fun("x", N2, case(X, call(ONCE, X), take("y", X, Y)))
        here = [(3, 1), (3, 2, 0), (3, 2, 0, 2), (3, 2, 1), (3, 2, 1, 2)]
        pairs = [(one, other) for at, one in enumerate(here) for other in here[at + 1:]]
        self.check(program, sorted(pairs))

    def test_other_things_around(self):
        # Both x stand for one thing, but y is around the second one.
        self.check(fun("x", N2, case(X, fun("y", N2, X), fun("y", N2, X))), [((3, 2, 0), (3, 2, 1))])
        self.check(call(fun("x", N1, number(0, 2)), take("x", COIN, number(0, 1))), [])
        self.check(fun("x", N2, fun("y", N2, number(0, 2))), [])
        # Equal numbers of things around are not enough.
        two = case(COIN, call(fun("x", N1, number(0, 2)), number(0, 1)), call(fun("x", N1, number(0, 2)), number(0, 1)))
        zero = [(2, 0), (2, 1)]
        expected = [((2, 0), (2, 1)), ((2, 0, 1), (2, 1, 1)), ((2, 0, 2), (2, 1, 2))]
        self.assertEqual(zero, [path for path in paths(two) if path in zero])
        found = alike_parts(two)
        self.assertEqual(expected, [pair for pair in found if pair[0][:2] != (1,) and pair[0] != ()][:3])
        self.assertNotIn(((2, 0, 1, 3), (2, 1, 1, 3)), found)

    def test_other_kinds(self):
        self.check(case(COIN, call(never(to(F, N1)), never(F)), call(never(to(N2, N1)), never(N2))), [((), (2, 0)), ((), (2, 1)), ((2, 0), (2, 1))])
        self.check(call(fun("f", F, number(0, 2)), never(F)), [])
        # Both never have rows without points, as many as the other, but other kinds.
        self.check(call(never(to(F, N2, N3)), never(F), never(N2)), [])

    def test_against_a_search(self):
        source = random.Random(65)
        found = 0
        for _ in range(60):
            program = Maker(source, busy=True, letters="abcdefgh").make(source.choice(KINDS), 3)
            if not is_program(program):
                continue
            told = alike_parts(program)
            self.assertEqual(told, sorted(told))
            for one, other in told:
                self.assertLess(one, other)
                self.assertEqual(around(program, one), around(program, other))
            closed = [path for path in paths(program) if around(program, path) == []]
            expected = []
            for at, one in enumerate(closed):
                for other in closed[at + 1:]:
                    first, second = part_at(program, one), part_at(program, other)
                    if kind_of(first) == kind_of(second) and table(first) == table(second):
                        expected.append((one, other))
            self.assertEqual(sorted(expected), [pair for pair in told if around(program, pair[0]) == []])
            found += len(told)
        self.assertGreater(found, 60)

    def test_refusals(self):
        self.check_refusals(alike_parts, {"program": COIN}, [("program", NO_PROGRAMS, BadProgram)])


def around(program, path):
    """The paths of the nodes that bind around what is at path."""
    found = []
    for at in range(len(path)):
        try:
            node = part_at(program, path[:at])
        except BadPath:
            continue
        if node[0] in ("fun", "take") and path[at] == 3:
            found.append(path[:at])
    return found


if __name__ == "__main__":
    unittest.main()
