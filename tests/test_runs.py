"""runs.py: points 31 and 32, with the facts of points 24 and 25."""

import random
import unittest
from fractions import Fraction

from chancepoints.errors import BadKind, BadPath, BadProgram, TooMany
from chancepoints.meaning import table
from chancepoints.runs import branches, how_often, means, run
from chancepoints.tables import chances
from tests.helping import Refusing, STRANGE, strange_but
from tests.oracle import (
    COIN, HALF, Maker, call, case, chances_of, draw, frac, fun, name, never, nodes, num, number, take, to, weight,
)
from tests.shapes import X
from tests.test_manners import EXAMPLE, FOUR_THOUSAND, NO_PROGRAMS, TWICE, composed, numbered, taking
from tests.walks import all_walks

N1, N2, N3, N6 = num(1), num(2), num(3), num(6)
F = to(N2, N2)
DRAW = (2,)
EXAMPLE_BRANCHES = [
    (((DRAW, 0), (DRAW, 0)), 0, (1, 4)), (((DRAW, 0), (DRAW, 1)), 1, (1, 8)), (((DRAW, 0), (DRAW, None)), None, (1, 8)),
    (((DRAW, 1),), 1, (1, 4)), (((DRAW, None),), None, (1, 4)),
]
OVER = case(COIN, FOUR_THOUSAND, number(0, 2))
OTHER_KINDS = [TWICE, fun("x", N2, X), never(F), fun("f", F, call(name("f"), COIN))]
# Paths are no strings, lists or numbers, and True is not 1.
NO_PATHS = strange_but((), (1,)) + [(0,), (4,), (2, 0), [2], "2", 2, (True,), (1, True), (1, 3, 2, 2), (1, 3, 2), (2, 1, 0), (-1,)]


def drawn_programs(seed, many, deep=(2, 3, 4)):
    """Random programs of numbers with at most so many branches, each with what walks tell of it."""
    source = random.Random(seed)
    found = []
    while len(found) < many:
        kind = source.choice([N1, N2, N2, N3])
        deeper = source.choice(deep)
        if source.random() < 0.5:
            program = Maker(source, source.random() < 0.3).make(kind, deeper)
        else:
            kind, program = N2, numbered(source, deeper)
        walks = all_walks(program, 300)
        if walks is not None:
            found.append((kind[1], program, walks))
    return found


DRAWN = drawn_programs(311, 300)


class Branches(unittest.TestCase, Refusing):
    def check(self, program, expected):
        self.check_calls(branches, {"program": program}, expected)

    def test_the_example(self):
        self.check(EXAMPLE, EXAMPLE_BRANCHES)

    def test_without_draws(self):
        self.check(number(1, 3), [((), 1, (1, 1))])
        self.check(never(N2), [((), None, (1, 1))])
        self.check(case(never(N2), COIN, COIN), [((), None, (1, 1))])
        self.check(take("x", number(2, 3), X), [((), 2, (1, 1))])
        self.check(call(TWICE, number(0, 2)), [((), 0, (1, 1))])

    def test_draws_of_one_weight_and_of_nothing(self):
        self.check(draw((1, 1)), [((((), 0),), 0, (1, 1))])
        self.check(draw((0, 1), (1, 1)), [((((), 1),), 1, (1, 1))])
        self.check(draw((1, 3)), [((((), 0),), 0, (1, 3)), ((((), None),), None, (2, 3))])
        self.check(draw((0, 1)), [((((), None),), None, (1, 1))])
        self.check(draw((0, 1), (0, 1)), [((((), None),), None, (1, 1))])
        self.check(case(draw((0, 1), (1, 2)), COIN, number(0, 2)), [((((1,), 1),), 0, HALF), ((((1,), None),), None, HALF)])

    def test_handed_things_are_run_anew(self):
        self.check(call(TWICE, COIN), [
            ((((2,), 0), ((2,), 0)), 0, (1, 4)), ((((2,), 0), ((2,), 1)), 1, (1, 4)), ((((2,), 1),), 1, HALF),
        ])
        # What is taken is run once.
        body = case(X, X, number(1, 2))
        self.check(take("x", COIN, body), [((((2,), 0),), 0, HALF), ((((2,), 1),), 1, HALF)])
        # A name of what is handed is that of the place where it was handed.
        shadowed = call(fun("x", N2, call(fun("y", N2, call(fun("x", N2, name("y")), number(0, 2))), X)), COIN)
        self.check(shadowed, [((((2,), 0),), 0, HALF), ((((2,), 1),), 1, HALF)])

    def test_functions_are_handed_on(self):
        apply = fun("f", F, fun("x", N2, call(name("f"), call(name("f"), X))))
        program = call(apply, fun("y", N2, case(name("y"), number(1, 2), COIN)), number(0, 2))
        path = (1, 2, 3, 2, 1)
        self.check(program, [(((path, 0),), 0, HALF), (((path, 1),), 1, HALF)])
        self.assertEqual(((1, 2), (1, 2)), run(program))

    def test_drawn_programs(self):
        for k, program, walks in DRAWN:
            expected = [(draws, answer, chance) for draws, answer, chance, _ in walks]
            self.check_equal(expected, branches(program))
            self.assertEqual(Fraction(1), sum(frac(row[2]) for row in expected))
            ordered = [[len(program) * 10 if n is None else n for _, n in draws] for draws, _, _ in expected]
            self.assertEqual(sorted(ordered), ordered)

    def test_just_4000_branches(self):
        self.assertEqual(4000, len(branches(FOUR_THOUSAND)))
        self.assertEqual(((1, 1), (0, 1)), run(FOUR_THOUSAND))
        for function in (branches, run, means):
            self.assertEqual(4000, self.refused(TooMany, function, OVER).most)
        self.assertEqual(4000, self.refused(TooMany, how_often, OVER, ()).most)
        # One more, as no answer.
        one_more = case(draw((1, 2)), FOUR_THOUSAND)
        self.assertEqual(4000, self.refused(TooMany, branches, one_more).most)
        # Ends at a never are branches.
        self.assertEqual(4000, self.refused(TooMany, run, case(COIN, FOUR_THOUSAND, never(N2))).most)
        self.assertEqual(4000, len(branches(case(draw((1, 1)), FOUR_THOUSAND))))

    def test_far_too_many_branches(self):
        many = call(composed(fun("x", N2, case(COIN, X, X)), 40), COIN)
        self.assertEqual(4000, self.refused(TooMany, branches, many).most)
        self.assertEqual(4000, self.refused(TooMany, run, taking([draw(*[(1, 6)] * 6)] * 40, COIN)).most)

    def test_refusals(self):
        wrong = [("program", NO_PROGRAMS, BadProgram), ("program", OTHER_KINDS, BadKind)]
        for function in (branches, run, means):
            self.check_refusals(function, {"program": EXAMPLE}, wrong)


class Run(unittest.TestCase, Refusing):
    def test_the_example(self):
        self.check_calls(run, {"program": EXAMPLE}, ((1, 4), (3, 8)))

    def test_drawn_programs(self):
        for k, program, walks in DRAWN:
            sums = [Fraction(0)] * k
            for _, answer, chance, _ in walks:
                if answer is not None:
                    sums[answer] += frac(chance)
            expected = tuple(weight(part) for part in sums)
            self.check_equal(expected, run(program))
            self.check_equal(expected, chances(table(program)))
            self.check_equal(expected, chances_of(program, k))


class HowOften(unittest.TestCase, Refusing):
    def check(self, program, path, expected):
        self.check_calls(how_often, {"program": program, "path": path}, expected)

    def test_the_example(self):
        self.check(EXAMPLE, (2,), [
            (0, 2, (1, 4)), (1, 1, (1, 4)), (1, 2, (1, 8)), (None, 1, (1, 4)), (None, 2, (1, 8)),
        ])

    def test_the_outermost_and_what_is_never_run(self):
        self.check(EXAMPLE, (), [(0, 1, (1, 4)), (1, 1, (3, 8)), (None, 1, (3, 8))])
        self.check(EXAMPLE, (1, 3, 2, 1), [(0, 0, (1, 4)), (1, 0, (1, 8)), (1, 1, (1, 4)), (None, 0, (3, 8))])
        self.check(call(fun("x", N2, number(0, 2)), COIN), (2,), [(0, 0, (1, 1))])
        self.check(never(N6), (), [(None, 1, (1, 1))])
        self.check(number(5, 6), (), [(5, 1, (1, 1))])

    def test_drawn_programs(self):
        for k, program, walks in DRAWN[:120]:
            for path, _ in nodes(program):
                sums = {}
                for _, answer, chance, counts in walks:
                    key = (k if answer is None else answer, counts.get(path, 0))
                    sums[key] = sums.get(key, 0) + frac(chance)
                expected = [(None if key[0] == k else key[0], key[1], weight(sums[key])) for key in sorted(sums)]
                self.check_equal(expected, how_often(program, path))

    def test_points_of_the_table_of_a_fun(self):
        source = random.Random(321)
        seen = 0
        for _ in range(120):
            kind = source.choice([N2, N3])
            body = Maker(source, letters="abc").make(N2, 3, {"x": kind})
            handed = Maker(source).make(kind, 1)
            program = call(fun("x", kind, body), handed)
            if all_walks(program, 500) is None:
                continue
            came = run(handed)
            sums = {}
            for answer, row in enumerate(table(fun("x", kind, body))):
                for point, worth in row:
                    product = frac(worth)
                    for _, _, i in point:
                        product *= frac(came[i])
                    if product:
                        sums[(answer, len(point))] = sums.get((answer, len(point)), 0) + product
            told = {(answer, n): frac(part) for answer, n, part in how_often(program, (2,)) if answer is not None}
            self.assertEqual(sums, told)
            seen += max([n for _, n in sums], default=0) > 1
        self.assertGreater(seen, 20)

    def test_refusals(self):
        self.check_refusals(how_often, {"program": EXAMPLE, "path": (2,)}, [
            ("program", NO_PROGRAMS, BadProgram), ("program", OTHER_KINDS, BadKind), ("path", NO_PATHS, BadPath),
        ])
        self.refused(BadPath, how_often, OVER, (0,))
        self.assertEqual(4000, self.refused(TooMany, how_often, OVER, (1,)).most)


class Means(unittest.TestCase, Refusing):
    def test_the_example(self):
        self.check_calls(means, {"program": EXAMPLE}, {
            (): (1, 1), (1,): (1, 1), (1, 3): (1, 1), (1, 3, 1): (1, 1), (1, 3, 2, 0): (1, 2), (1, 3, 2, 1): (1, 4), (2,): (3, 2),
        })

    def test_drawn_programs(self):
        for k, program, walks in DRAWN:
            expected = {}
            for path in sorted(path for path, _ in nodes(program)):
                expected[path] = weight(sum((frac(row[2]) * row[3].get(path, 0) for row in walks), Fraction(0)))
            found = means(program)
            self.check_equal(expected, found)
            self.assertEqual(list(expected), list(found))
            for path in list(expected)[:8]:
                told = sum((frac(part) * n for _, n, part in how_often(program, path)), Fraction(0))
                self.assertEqual(weight(told), found[path])

    def test_what_is_passed_in_is_judged_by_its_kinds(self):
        self.refused(BadProgram, means, list(COIN))
        self.assertGreater(len(STRANGE), 20)


if __name__ == "__main__":
    unittest.main()
