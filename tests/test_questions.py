"""questions.py: points 67, 68 and 69."""

import random
import unittest
from fractions import Fraction

from chancepoints.alike import alike
from chancepoints.errors import (
    BadExpression, BadKind, BadNumber, BadNumbers, BadPaths, BadProgram, BadTake, NoChance, TooMany,
)
from chancepoints.meaning import table
from chancepoints.putting import handed
from chancepoints.questions import believed, drawn, drawn_if, means, opened
from chancepoints.runs import run
from chancepoints.terms import kind_of
from tests.helping import Refusing, STRANGE, strange_but
from tests.oracle import (
    COIN, HALF, Maker, call, case, chances_of, draw, frac, fun, is_small, name, never, nodes, num, number, split, take, to, weight,
)
from tests.shapes import X
from tests.test_manners import EXAMPLE, NO_PROGRAMS, TWICE
from tests.test_meaning import JUST, OVER, used, used_times
from tests.test_runs import DRAWN, OTHER_KINDS
from tests.walks import all_walks

N1, N2, N3 = num(1), num(2), num(3)
F = to(N2, N2)
ALL = (1, 1)
ZERO, ONE = number(0, 2), number(1, 2)
SHOWN = case(COIN, ZERO, draw((1, 3), (2, 3)))
# A program of a number with too large a table behind one of its draws.
LARGE = call(OVER, draw(ALL))
A, B, C = name("a"), name("b"), name("c")


def draw_paths(program):
    return [path for path, part in nodes(program) if part[0] == "draw"]


def slow_drawn(program, paths, k, walks):
    """What drawn tells, by all branches of the program."""
    rows = [{} for _ in range(k)]
    for draws, answer, chance, _ in walks:
        if answer is not None:
            point = tuple(sorted((paths.index(path), (), b) for path, b in draws if path in paths))
            rows[answer][point] = rows[answer].get(point, 0) + frac(chance)
    return rows


def told(row):
    return tuple((point, weight(row[point])) for point in sorted(row))


def slow_means(program, paths, row):
    whole = sum(row.values())
    found = []
    for i, path in enumerate(paths):
        weights = dict(nodes(program))[path][1]
        found.append(tuple(weight(sum((part * point.count((i, (), b)) for point, part in row.items()), Fraction(0)) / whole) for b in range(len(weights))))
    return found


def some_paths(source, program):
    """One to four paths to draws in a program, in any order; None if there are no draws."""
    found = draw_paths(program)
    source.shuffle(found)
    return found[:source.randrange(1, 5)] or None


class Opened(unittest.TestCase, Refusing):
    def check(self, program, paths, expected):
        self.check_calls(opened, {"program": program, "paths": paths}, expected)
        self.check_equal(expected, opened(program, tuple(paths)))

    def test_by_hand(self):
        self.check(COIN, [()], fun("a", N2, A))
        self.check(SHOWN, [(1,)], fun("a", N2, case(A, ZERO, draw((1, 3), (2, 3)))))
        self.check(SHOWN, [(2, 1)], fun("a", N2, case(COIN, ZERO, A)))
        self.check(SHOWN, [(2, 1), (1,)], fun("a", N2, fun("b", N2, case(B, ZERO, A))))
        self.check(EXAMPLE, [(2,)], fun("a", N2, call(TWICE, A)))

    def test_names_that_stand_in_the_program(self):
        program = take("a", draw((1, 2), (0, 1), (0, 1)), call(fun("c", N3, case(A, COIN, COIN, draw(HALF, HALF))), A))
        self.check(program, [(3, 1, 3, 2, 0), (2,)], fun("b", N2, fun("d", N3, take(
            "a", name("d"), call(fun("c", N3, case(A, B, COIN, COIN)), A)))))
        body = COIN
        for x in "abcdefghijklmnopqrstuvwxyz":
            body = take(x, number(0, 1), body)
        self.check(body, [(3,) * 26], fun("aa", N2, self.exchanged(body)))

    def exchanged(self, body):
        return name("aa") if body == COIN else take(body[1], body[2], self.exchanged(body[3]))

    def test_just_small_enough(self):
        def deep(levels):
            made = COIN
            for _ in range(levels - 1):
                made = case(number(0, 1), made)
            return made

        def wide(many):
            made = [COIN] * many
            while len(made) > 1:
                groups = [made[at:at + 6] for at in range(0, len(made), 6)]
                made = [case(number(0, len(group)), *group) for group in groups]
            return made[0]
        bottom = (2, 0) * 48
        self.assertEqual(F, kind_of(opened(deep(49), [bottom])))
        self.refused(BadExpression, opened, deep(50), [bottom + (2, 0)])
        sizes = {len(nodes(wide(many))): wide(many) for many in range(190, 215)}
        large = [many for many in sizes if 290 < many <= 300]
        self.assertGreater(len(large), 2)
        for many in large:
            paths = draw_paths(sizes[many])
            for opening in range(1, 5):
                if many + opening <= 300:
                    self.assertEqual(many + opening, len(nodes(opened(sizes[many], paths[:opening]))))
                else:
                    self.refused(BadExpression, opened, sizes[many], paths[:opening])

    def test_handed_the_draws_it_is_the_program(self):
        source = random.Random(671)
        told_ = 0
        for k, program, _ in DRAWN:
            paths = some_paths(source, program)
            if paths is None:
                continue
            made = opened(program, paths)
            draws = [dict(nodes(program))[path] for path in paths]
            kinds, j = split(kind_of(made))
            self.assertEqual([num(len(part[1])) for part in draws], kinds)
            self.assertEqual(k, j)
            self.assertIs(True, alike(call(made, *draws), program) if is_small(call(made, *draws)) else True)
            closed, kind = table(made), kind_of(made)
            for part in draws:
                closed, kind = handed(kind, closed, table(part)), kind[2]
            self.assertEqual(table(program), closed)
            told_ += 1
        self.assertGreater(told_, 150)

    def test_refusals(self):
        for function, more in ((opened, {}), (drawn, {}), (drawn_if, {"number": 0}), (means, {"number": 0})):
            wrong = strange_but([1]) + [
                [], (), [(1,)] * 2, [(1,), (2, 1), (1,)], [()], [(2, 0)], [(2,)], [(3,)], [[1]], [None], [(True,)], [(2, True)], [(1,), [2, 1]],
                (1,), {(1,): 1}, [(1,), (2, 1), None], [(1, 1)], [("1",)], "1", [(1,), (2, 1), (1,), (2, 1), (1,)], [1], [(-1,)],
            ]
            self.check_refusals(function, {"program": SHOWN, "paths": [(1,)], **more}, [
                ("program", NO_PROGRAMS, BadProgram), ("program", OTHER_KINDS, BadKind), ("paths", wrong, BadPaths),
            ])
        five = case(draw(*[(1, 5)] * 5), *[COIN] * 5)
        paths = [(2, at) for at in range(5)]
        self.refused(BadPaths, opened, five, paths)
        self.assertEqual(to(N2, N2, N2, N2, N2), kind_of(opened(five, paths[:4])))


class Drawn(unittest.TestCase, Refusing):
    def test_the_example(self):
        zero, one = (((0, (), 0),), (1, 2)), (((0, (), 1),), (1, 6))
        self.check_calls(drawn, {"program": SHOWN, "paths": [(1,)]}, ((zero, one), ((((0, (), 1),), (1, 3)),)))
        given = (zero[0], (3, 4)), (one[0], (1, 4))
        self.check_calls(drawn_if, {"program": SHOWN, "paths": [(1,)], "number": 0}, given)
        self.check_calls(means, {"program": SHOWN, "paths": [(1,)], "number": 0}, [((3, 4), (1, 4))])

    def test_several_runs_of_a_draw(self):
        zeros, mixed, ones = ((0, (), 0),) * 2, ((0, (), 0), (0, (), 1)), ((0, (), 1),)
        expected = (((zeros, (1, 4)),), ((mixed, (1, 8)), (ones, (1, 4))))
        self.check_calls(drawn, {"program": EXAMPLE, "paths": [(2,)]}, expected)
        self.check_calls(means, {"program": EXAMPLE, "paths": [(2,)], "number": 0}, [((2, 1), (0, 1))])
        self.check_calls(means, {"program": EXAMPLE, "paths": [(2,)], "number": 1}, [((1, 3), ALL)])

    def test_chances_of_nothing_are_left_out(self):
        program = case(draw((0, 1), HALF), ZERO, COIN)
        one = ((0, (), 1),)
        self.check_calls(drawn, {"program": program, "paths": [(1,)]}, (((one, (1, 4)),), ((one, (1, 4)),)))
        self.check_calls(drawn, {"program": draw((0, 1), (0, 1)), "paths": [()]}, ((), ()))
        # A draw that is never run.
        never_run = case(ZERO, ONE, COIN)
        self.check_calls(drawn, {"program": never_run, "paths": [(2, 1)]}, ((), (((), ALL),)))
        self.check_calls(means, {"program": never_run, "paths": [(2, 1)], "number": 1}, [((0, 1), (0, 1))])

    def test_against_all_branches(self):
        source = random.Random(681)
        seen = 0
        for k, program, walks in DRAWN:
            paths = some_paths(source, program)
            if paths is None:
                continue
            rows = slow_drawn(program, paths, k, walks)
            self.check_equal(tuple(told(row) for row in rows), drawn(program, paths))
            self.assertEqual(run(program), tuple(weight(sum(row.values(), Fraction(0))) for row in rows))
            for b, row in enumerate(rows):
                if not row:
                    self.refused(NoChance, drawn_if, program, paths, b)
                    self.refused(NoChance, means, program, paths, b)
                    continue
                whole = sum(row.values())
                self.check_equal(told({point: part / whole for point, part in row.items()}), drawn_if(program, paths, b))
                self.check_equal(slow_means(program, paths, row), means(program, paths, b))
                seen += max(len(point) for point in row) > 1
        self.assertGreater(seen, 80)

    def test_a_number_twice_in_unlike_draws(self):
        three = draw((1, 3), (1, 6), (1, 6))
        program = take("x", three, case(X, COIN, ZERO, ONE))
        found = drawn(program, [(3, 2, 0), (2,)])
        self.assertEqual(((((0, (), 0), (1, (), 0)), (1, 6)), (((1, (), 1),), (1, 6))), found[0])
        self.assertEqual(((((0, (), 1), (1, (), 0)), (1, 6)), (((1, (), 2),), (1, 6))), found[1])

    def test_order_of_errors(self):
        for function in (drawn_if, means):
            numbers = [value for value in STRANGE if not (type(value) is int and value in (0, 1))] + [2, -1, True, False, "0", (0,), [0]]
            self.check_refusals(function, {"program": SHOWN, "paths": [(1,)], "number": 0}, [("number", numbers, BadNumber)])
            self.refused(BadNumber, function, LARGE, [(2,)], 1)
            self.assertEqual(4000, self.refused(TooMany, function, LARGE, [(2,)], 0).most)
            self.refused(BadPaths, function, LARGE, [(1,)], 7)
            self.refused(NoChance, function, never_or(COIN), [(1,)], 2)
        self.assertEqual(4000, self.refused(TooMany, drawn, LARGE, [(2,)]).most)
        bottom = (2, 0) * 49
        deep = COIN
        for _ in range(49):
            deep = case(number(0, 1), deep)
        for function in (drawn_if, means):
            self.refused(BadExpression, function, deep, [bottom], None)
        self.refused(BadExpression, drawn, deep, [bottom])

    def test_a_table_that_is_just_small_enough(self):
        program = call(JUST, draw(HALF))
        # Not compared by assertEqual, which would look for what is unlike in thousands of rows.
        self.assertTrue(drawn(program, [(2,)]) == (((((0, (), 0),) * 3999, (1, 2 ** 3999)),),))
        self.assertTrue(means(program, [(2,)], 0) == [((3999, 1),)])


def never_or(part):
    """A program of num 3 that never comes to 2."""
    return case(part, number(0, 3), number(1, 3))


def slow_believed(program, numbers):
    _, x, (_, ws), e = program
    found = []
    for n, part in enumerate(ws):
        k = kind_of(program)[1]
        chances = chances_of(take("zz", number(0, 1), call(fun(x, num(len(ws)), e), number(n, len(ws)))), k)
        chance = frac(part)
        for came in numbers:
            chance *= frac(chances[came])
        found.append(chance)
    whole = sum(found)
    return tuple(weight(part / whole) for part in found) if whole else None


class Believed(unittest.TestCase, Refusing):
    def check(self, program, numbers, expected):
        self.check_calls(believed, {"program": program, "numbers": numbers}, expected)
        self.check_equal(expected, believed(program, tuple(numbers)))

    THIRDS = take("x", COIN, case(X, draw((1, 3), (2, 3)), draw((2, 3), (1, 3))))

    def test_by_hand(self):
        self.check(self.THIRDS, [], (HALF, HALF))
        self.check(self.THIRDS, [0], ((1, 3), (2, 3)))
        self.check(self.THIRDS, [1], ((2, 3), (1, 3)))
        self.check(self.THIRDS, [0, 1], (HALF, HALF))
        self.check(self.THIRDS, [0, 0, 0], ((1, 9), (8, 9)))
        self.check(take("x", draw((1, 2), (1, 4)), ZERO), [], ((2, 3), (1, 3)))
        self.check(take("x", draw((1, 2), (0, 1), (1, 4)), X), [0, 0], (ALL, (0, 1), (0, 1)))
        self.check(take("x", draw((1, 5)), never(N2)), [], (ALL,))
        # The draw is taken once; x is used twice.
        self.check(take("x", COIN, case(X, case(X, COIN, ZERO), ONE)), [1], ((1, 3), (2, 3)))

    def test_no_chance(self):
        for program, numbers in [
            (take("x", draw((0, 1), (0, 1)), X), []), (take("x", draw((1, 2), (0, 1)), X), [1]), (take("x", COIN, X), [0, 1]),
            (take("x", COIN, never(N2)), [0]), (take("x", COIN, ZERO), [1]),
        ]:
            self.refused(NoChance, believed, program, numbers)

    def test_against_runs(self):
        source = random.Random(691)
        seen = 0
        for _ in range(200):
            k = source.choice([1, 2, 2, 3])
            body = Maker(source, letters="abc").make(num(k), 3, {"x": N3})
            program = take("x", draw((1, 2), (1, 3), (1, 12)), body)
            if not is_small(program) or all_walks(program, 300) is None:
                continue
            numbers = [source.randrange(k) for _ in range(source.randrange(5))]
            expected = slow_believed(program, numbers)
            if expected is None:
                self.refused(NoChance, believed, program, numbers)
                continue
            self.check_equal(expected, believed(program, numbers))
            source.shuffle(numbers)
            self.check_equal(expected, believed(program, numbers))
            # Step by step.
            step = program
            for came in numbers:
                step = take("x", ("draw", believed(step, [came])), body)
            self.check_equal(expected, believed(step, []))
            seen += expected != believed(program, [])
        self.assertGreater(seen, 40)

    def test_drawn_if_tells_the_same(self):
        # One program draws x once, runs e twice, and comes to 1 if the numbers are 0 and 1.
        body = self.THIRDS[3]
        twice = take("x", COIN, case(body, case(body, ZERO, ONE), ZERO))
        row = drawn_if(twice, [(2,)], 1)
        self.assertEqual(believed(self.THIRDS, [0, 1]), tuple(part for _, part in row))

    def test_just_100_numbers(self):
        many = believed(self.THIRDS, [0] * 100)
        self.check_equal((weight(Fraction(1, 1 + 2 ** 100)), weight(Fraction(2 ** 100, 1 + 2 ** 100))), many)
        self.assertEqual((HALF, HALF), believed(self.THIRDS, [0, 1] * 50))
        self.refused(BadNumbers, believed, self.THIRDS, [0] * 101)
        self.refused(BadNumbers, believed, self.THIRDS, [0, 1] * 50 + [0])

    def test_refusals(self):
        numbers = strange_but([], (), [1], (1,)) + [[2], [-1], [0, None], [True], [0, False], "0", {0: 1}, [[0]], [(0,)], ["0"], 0, [0] * 101, [10 ** 79]]
        numbers = [value for value in numbers if value not in ((1, 0),)]
        takes = [COIN, case(COIN, ZERO, ONE), EXAMPLE, take("x", ZERO, X), take("x", case(COIN, ZERO, ONE), X), number(0, 1), never(N2), SHOWN]
        self.check_refusals(believed, {"program": self.THIRDS, "numbers": [0, 1]}, [
            ("program", NO_PROGRAMS, BadProgram), ("program", OTHER_KINDS, BadKind), ("program", takes, BadTake), ("numbers", numbers, BadNumbers),
        ])
        large = take("x", draw(ALL, (0, 1)), take("y", used_large(), X))
        self.refused(BadNumbers, believed, large, [2])
        self.assertEqual(4000, self.refused(TooMany, believed, large, [1]).most)
        self.assertEqual(4000, self.refused(TooMany, believed, large, []).most)
        self.assertEqual(4000, self.refused(TooMany, believed, take("x", draw((0, 1)), call(used_times(20, 20, 10), X)), []).most)
        self.assertEqual((ALL,), believed(take("x", draw(ALL), used("x", 40)), [0]))


def used_large():
    """An expression of num 1 with too large a table, that uses no x."""
    return call(OVER, number(0, 1))


if __name__ == "__main__":
    unittest.main()
