"""agreeing.py: points 60 and 61."""

import random
import unittest
from fractions import Fraction

from chancepoints.agreeing import agree, alike_by, parting
from chancepoints.asking import folded
from chancepoints.errors import BadKind, BadManner, BadProgram, BadSure, TooMany
from chancepoints.manners import run_by
from chancepoints.meaning import table
from chancepoints.terms import kind_of
from chancepoints.weights import is_weight
from tests.helping import Refusing, STRANGE
from tests.oracle import (
    COIN, Maker, call, case, draw, frac, fun, is_small, name, never, nodes, num, number, split, take, to,
)
from tests.shapes import X
from tests.test_asking import NOT_PLAIN, PLAIN, bare_program, plain_program
from tests.test_manners import MANNERS, NO_PROGRAMS, TWICE, WRONG_MANNERS, fifths, taking
from tests.test_meaning import JUST, OVER
from tests.trials import asked_trials

N1, N2, N3, N5, N6 = num(1), num(2), num(3), num(5), num(6)
F = to(N2, N2)
Y = name("y")
IDENTITY = fun("x", N2, X)
CHANGED = fun("x", N2, case(X, number(1, 2), number(0, 2)))
IDLE = fun("x", N2, number(0, 2))
SURE_HALF = fun("x", N2, case(X, COIN, COIN))
WRONG_SURES = [value for value in STRANGE if value is not True and value is not False] + [0, 1, "True", [True], (False,)]


def sides(point, kinds, degrees):
    """A monomial made homogeneous by sums of the chances of each thing, as a dict of monomials."""
    found = {tuple(sorted(point)): Fraction(1)}
    for v, kind in enumerate(kinds):
        many = degrees[v] - len([1 for call_ in point if call_[0] == v])
        for _ in range(many):
            spread = {}
            for part, worth in found.items():
                for b in range(kind[1]):
                    key = tuple(sorted(part + ((v, (), b),)))
                    spread[key] = spread.get(key, 0) + worth
            found = spread
    return found


def are_the_same(one, other, kind, sure):
    """Whether two tables tell the same for all draws: with sure, as sums of equal degrees."""
    if not sure:
        return one == other
    kinds = split(kind)[0]
    for row, opposite in zip(one, other):
        pairs = [(point, frac(part)) for point, part in row] + [(point, -frac(part)) for point, part in opposite]
        degrees = [max([len([1 for call_ in point if call_[0] == v]) for point, _ in pairs], default=0)
                   for v in range(len(kinds))]
        sums = {}
        for point, worth in pairs:
            for key, factor in sides(point, kinds, degrees).items():
                sums[key] = sums.get(key, 0) + worth * factor
        if any(sums.values()):
            return False
    return True


class AlikeBy(unittest.TestCase, Refusing):
    def test_by_hand(self):
        for manner, expected in (("name", False), ("need", True), ("value", True)):
            self.check_calls(alike_by, {"one": TWICE, "other": IDENTITY, "manner": manner}, expected)
        often = fun("x", N2, case(X, number(0, 2), number(0, 2)))
        for manner, expected in (("name", False), ("need", False), ("value", True)):
            self.check_calls(alike_by, {"one": IDLE, "other": often, "manner": manner}, expected)
        for manner in MANNERS:
            self.assertIs(False, alike_by(IDENTITY, CHANGED, manner))
            self.assertIs(True, alike_by(IDENTITY, fun("y", N2, Y), manner))
            self.assertIs(True, alike_by(COIN, take("x", COIN, X), manner))
            self.assertIs(False, alike_by(COIN, number(0, 2), manner))

    def test_random_pairs(self):
        source = random.Random(601)
        for _ in range(200):
            kind = source.choice(PLAIN)
            one, other = plain_program(source, kind, 2), plain_program(source, kind, 2)
            for manner in MANNERS:
                expected = asked_trials(one, manner, kind)[0] == asked_trials(other, manner, kind)[0]
                self.assertIs(expected, alike_by(one, other, manner))

    def test_large_tables(self):
        self.assertIs(True, alike_by(JUST, OVER, "need"))
        self.assertIs(False, alike_by(JUST, OVER, "name"))

    def test_refusals(self):
        right = {"one": TWICE, "other": IDENTITY, "manner": "need"}
        unlike = [COIN, fun("x", N2, number(0, 3)), fun("x", N3, number(0, 2)), NOT_PLAIN[0]]
        self.check_refusals(alike_by, right, [
            ("one", NO_PROGRAMS, BadProgram), ("other", NO_PROGRAMS, BadProgram), ("other", unlike, BadKind),
            ("manner", WRONG_MANNERS, BadManner),
        ])
        for part in NOT_PLAIN:
            self.refused(BadKind, alike_by, part, part, "no")
            self.refused(BadProgram, alike_by, part, None, "name")
        huge = fun("x", N2, taking([fifths()] * 6, number(0, 2)))
        self.refused(BadManner, alike_by, huge, huge, None)
        self.assertEqual(4000, self.refused(TooMany, alike_by, huge, huge, "name").most)
        self.refused(TooMany, alike_by, IDENTITY, huge, "need")


class Agree(unittest.TestCase, Refusing):
    def check(self, program, one, other, sure, expected):
        right = {"program": program, "one": one, "other": other, "sure": sure}
        self.check_calls(agree, right, expected)
        found = parting(**right)
        self.check_equal(found, parting(program, one, other, sure))
        if not sure:
            self.assertIs(expected, agree(program, one, other))
            self.check_equal(found, parting(program, one, other))
        if expected:
            self.assertIsNone(found)
        else:
            self.check_parts(program, one, other, sure, found)

    def check_parts(self, program, one, other, sure, found):
        kinds, _ = split(kind_of(program))
        self.assertIsInstance(found, tuple)
        self.assertEqual([kind[1] for kind in kinds], [len(part) for part in found])
        for part in found:
            self.assertIsInstance(part, tuple)
            for worth in part:
                self.assertTrue(is_weight(worth) and worth[0] >= 0, worth)
            whole = sum(frac(worth) for worth in part)
            self.assertTrue(whole == 1 if sure else whole <= 1, part)
        handed = call(program, *[("draw", part) for part in found])
        self.assertNotEqual(run_by(handed, one), run_by(handed, other))

    def test_the_example(self):
        self.check(TWICE, "name", "need", False, False)
        self.check(TWICE, "name", "need", True, False)
        handed = call(TWICE, COIN)
        self.assertEqual((1, 4), run_by(handed, "name")[0])
        self.assertEqual((1, 2), run_by(handed, "need")[0])

    def test_each_manner_against_each(self):
        expected = {
            IDENTITY: [], IDLE: [("name", "value"), ("need", "value")], TWICE: [("name", "need"), ("name", "value")],
            COIN: [], fun("x", N2, fun("y", N2, case(X, Y, number(0, 2)))): [("name", "value"), ("need", "value")],
            fun("x", N2, case(X, X, X)): [("name", "need"), ("name", "value")],
            never(to(N2, N3, N2)): [], draw((1, 3)): [],
        }
        for program, unlike in expected.items():
            for one in MANNERS:
                for other in MANNERS:
                    agreeing = (one, other) not in unlike and (other, one) not in unlike
                    self.check(program, one, other, False, agreeing)

    def test_with_sure_but_not_without(self):
        self.check(IDLE, "need", "value", True, True)
        self.check(IDLE, "need", "value", False, False)
        self.check(IDLE, "name", "value", True, True)
        one_way = fun("x", N1, case(X, case(X, COIN)))
        self.check(one_way, "name", "need", True, True)
        self.check(one_way, "name", "need", False, False)
        self.check(SURE_HALF, "name", "need", True, True)
        even = fun("x", N3, case(X, *[case(X, *[number(1, 2)] * 3)] * 3))
        self.check(even, "name", "value", True, True)
        self.check(even, "name", "value", False, False)
        uneven = fun("x", N3, case(X, *[case(X, number(1, 2), number(1, 2), number(0, 2))] * 3))
        self.check(uneven, "name", "need", True, True)
        for sure in (True, False):
            self.check(fun("x", N3, case(X, X, X, number(0, 3))), "name", "need", sure, False)

    def test_sums_of_high_degrees(self):
        # What is asked again is one number: handed draws that are sure, all of them answer alike.
        for many, ways in ((1, 2), (2, 2), (3, 2), (4, 2), (5, 2), (6, 2), (1, 3), (2, 3), (3, 3), (4, 3)):
            idle = number(0, 2)
            for _ in range(many):
                idle = case(X, *[idle] * ways)
            self.check(fun("x", num(ways), idle), "name", "value", True, True)
            last = number(0, 2)
            for _ in range(many):
                last = case(X, *[number(1, 2)] * (ways - 1), last)
            self.check(fun("x", num(ways), last), "name", "need", True, many == 1)
            self.check(fun("x", num(ways), last), "name", "need", False, many == 1)
            # The last number comes many times, or the others do: all in all that is sure.
            both = case(X, *[idle] * (ways - 1), last)
            program = fun("x", num(ways), case(X, idle, *[both] * (ways - 1)))
            if is_small(program):
                self.check(program, "need", "value", True, True)

    def test_calls(self):
        program = fun("x", N2, call(fun("y", N2, case(COIN, Y, number(0, 2))), X))
        self.check(program, "need", "value", False, False)
        self.check(program, "need", "value", True, True)
        program = fun("x", N2, call(fun("y", N2, case(Y, Y, number(0, 2))), COIN))
        for sure in (True, False):
            self.check(program, "name", "need", sure, False)

    def test_random_programs(self):
        source = random.Random(611)
        seen = {True: 0, False: 0}
        for at in range(240):
            kind = source.choice(PLAIN)
            program = bare_program(source, kind, 2) if at < 100 else plain_program(source, kind, source.choice([2, 3, 4]))
            if not is_small(program):
                continue
            one, other = source.sample(MANNERS, 2)
            for sure in (False, True):
                try:
                    rows, others = asked_trials(program, one, kind), asked_trials(program, other, kind)
                    if max(rows[1], others[1]) > 300:
                        continue
                    expected = are_the_same(rows[0], others[0], kind, sure)
                    self.check(program, one, other, sure, expected)
                    seen[expected] += 1
                except TooMany:
                    self.fail("too many")
        self.assertGreater(seen[True], 50)
        self.assertGreater(seen[False], 50)

    def test_whole_programs_agree_by_need_and_value_if_sure(self):
        source = random.Random(612)
        for _ in range(80):
            kind = source.choice(PLAIN)
            program = Maker(source, True, [N2, F], "xyz", busy=True).make(kind, 3)
            if is_small(program) and not any(node[0] == "never" for _, node in nodes(program)):
                self.check(program, "need", "value", True, True)

    def test_bare_programs_as_their_points_tell(self):
        source = random.Random(613)
        for _ in range(150):
            kind = source.choice(PLAIN)
            program = bare_program(source, kind, 2)
            kinds, _ = split(kind)
            points = [point for row in table(program) for point, _ in row]
            left = [point for row in folded(kind, table(program)) for point, _ in row]
            many = [[len([1 for call_ in point if call_[0] == v]) for v in range(len(kinds))] for point in points]
            called = [{call_[0] for call_ in point} == set(range(len(kinds))) for point in left]
            self.assertIs(all(max(part, default=0) <= 1 for part in many), agree(program, "name", "need"))
            self.assertIs(all(set(part) <= {1} for part in many), agree(program, "name", "value"))
            self.assertIs(all(called), agree(program, "need", "value"))

    def test_parting_at_places_where_many_draws_do_not_part(self):
        # The chances differ by x * x * (1 - 2 x) ..: one half parts nothing.
        for number_ in range(2):
            program = fun("x", N2, case(X, *[case(X, number(number_, 2), number(1 - number_, 2))] * 2))
            self.check(program, "name", "need", False, False)
            self.check(program, "name", "need", True, True)
        program = fun("x", N2, case(X, case(X, number(0, 2), COIN), case(X, COIN, number(0, 2))))
        self.check(program, "name", "need", True, False)
        self.check(fun("x", N6, case(X, *[X] * 6)), "name", "need", True, True)
        self.check(fun("x", N6, case(X, X, *[number(0, 6)] * 5)), "name", "need", True, False)

    def test_long_points(self):
        self.check(JUST, "name", "need", False, False)
        self.check(JUST, "name", "value", True, True)
        self.check(JUST, "need", "value", False, True)

    def test_many_products(self):
        # Spelt out this has more products than 4000, which may be told or not.
        often = X
        for _ in range(30):
            often = case(X, often, *[number(0, 6)] * 5)
        program = fun("x", N6, often)
        self.assertIs(False, agree(program, "name", "need"))
        try:
            self.assertIs(False, agree(program, "name", "need", True))
        except TooMany as error:
            self.assertEqual(4000, error.most)

    def test_refusals(self):
        wrong = [
            ("program", NO_PROGRAMS, BadProgram), ("program", NOT_PLAIN, BadKind), ("one", WRONG_MANNERS, BadManner),
            ("other", WRONG_MANNERS, BadManner), ("sure", WRONG_SURES, BadSure),
        ]
        right = {"program": TWICE, "one": "name", "other": "need", "sure": True}
        for function in (agree, parting):
            self.check_refusals(function, right, wrong)
            huge = fun("x", N2, taking([fifths()] * 6, number(0, 2)))
            self.refused(BadSure, function, huge, "name", "need", 1)
            self.assertEqual(4000, self.refused(TooMany, function, huge, "name", "name").most)
            deep = fun("x", N2, taking([fifths()] * 5, number(0, 2)))
            self.assertEqual(4000, self.refused(TooMany, function, deep, "need", "value", True).most)


if __name__ == "__main__":
    unittest.main()
