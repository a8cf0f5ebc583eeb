"""tapes.py: points 37, 38 and 39."""

import random
import unittest
from fractions import Fraction
from itertools import product
from math import lcm

from chancepoints.errors import BadGrid, BadKind, BadLength, BadProgram, BadTape, TooMany
from chancepoints.meaning import table
from chancepoints.runs import branches, means, run
from chancepoints.tapes import TapeRun, grid, led, shares
from tests.helping import Refusing, STRANGE, strange_but
from tests.oracle import (
    COIN, HALF, Maker, call, case, draw, frac, fun, is_small, name, never, nodes, num, number, take, to,
)
from tests.shapes import X
from tests.test_manners import EXAMPLE, FOUR_THOUSAND, NO_PROGRAMS
from tests.test_runs import DRAWN, OTHER_KINDS, OVER
from tests.walks import Short, Walk

N1, N2, N3 = num(1), num(2), num(3)
F = to(N2, N2)
ODD = draw((1, 6), (0, 1), (1, 4))
NO_TAPES = strange_but([1], (1,), [], (), (1, 2, 3), (0, 2), (1, 0)) + [[4], [-1], [0, None], [0, 4], [True], [0, True], "0", {0: 1}, [[0]], ["0"], [(0,)]]


def led_walk(program, many, tape):
    """A walk that is led by a tape, by the words of point 37."""
    left = list(tape)

    def choose(weights):
        if not left:
            raise Short()
        t = left.pop(0)
        low = Fraction(0)
        for i, part in enumerate(weights):
            high = low + frac(part)
            if many * low <= t < many * high:
                return i
            low = high
        return None
    return Walk(program, choose), left


def slow_led(program, many, tape):
    walk, left = led_walk(program, many, tape)
    try:
        while walk.end is None:
            walk.step()
    except Short:
        return ("short",), len(tape) - len(left)
    return walk.end, len(tape) - len(left)


def slow_grid(program):
    return lcm(1, *[bottom for _, part in nodes(program) if part[0] == "draw" for _, bottom in part[1]])


class Grid(unittest.TestCase, Refusing):
    def check(self, program, expected):
        self.check_calls(grid, {"program": program}, expected)

    def test_grids(self):
        self.check(EXAMPLE, 4)
        self.check(number(0, 1), 1)
        self.check(draw((0, 1)), 1)
        self.check(draw((1, 1)), 1)
        self.check(draw((2, 3), (1, 3)), 3)
        self.check(case(draw((1, 6), (1, 4)), COIN, draw((1, 10), (0, 1))), 60)
        self.check(fun("x", N2, case(X, COIN, never(N2))), 2)
        self.check(never(to(F, F)), 1)
        self.check(draw((1, 10 ** 79), (1, 10 ** 79 + 1)), 10 ** 79 * (10 ** 79 + 1))

    def test_drawn_programs(self):
        for _, program, _ in DRAWN:
            self.check_equal(slow_grid(program), grid(program))

    def test_refusals(self):
        self.check_refusals(grid, {"program": EXAMPLE}, [("program", NO_PROGRAMS, BadProgram)])


class Led(unittest.TestCase, Refusing):
    def check(self, program, many, tape, expected):
        self.check_calls(led, {"program": program, "many": many, "tape": tape}, expected)
        self.check_equal(expected, led(program, many, tuple(tape)))

    def test_ends(self):
        self.check(EXAMPLE, 4, [2], (("answer", 1), 1))
        self.check(EXAMPLE, 4, [0, 1], (("answer", 0), 2))
        self.check(EXAMPLE, 4, [1, 2], (("answer", 1), 2))
        self.check(EXAMPLE, 4, [3], (("none",), 1))
        self.check(EXAMPLE, 4, [0, 3], (("none",), 2))
        self.check(EXAMPLE, 4, [], (("short",), 0))
        self.check(EXAMPLE, 4, [0], (("short",), 1))
        # Items behind the last draw are not read.
        self.check(EXAMPLE, 4, [2, 3, 3], (("answer", 1), 1))
        self.check(number(1, 2), 1, [], (("answer", 1), 0))
        self.check(number(1, 2), 5, [4, 4], (("answer", 1), 0))
        self.check(never(N2), 1, [0], (("none",), 0))
        self.check(case(COIN, never(N2), number(0, 2)), 2, [0], (("none",), 1))

    def test_items_at_the_bounds_of_weights(self):
        for item, end in enumerate([("answer", 0)] * 2 + [("answer", 2)] * 3 + [("none",)] * 7):
            self.check(ODD, 12, [item], (end, 1))
        for item, end in enumerate([("answer", 0)] * 4 + [("answer", 2)] * 6 + [("none",)] * 14):
            self.check(ODD, 24, [item], (end, 1))
        # Weights below all, and nothing at all.
        self.check(draw((1, 2), (1, 2)), 2, [1], (("answer", 1), 1))
        self.check(draw((0, 1), (1, 2)), 2, [0], (("answer", 1), 1))
        self.check(draw((0, 1), (1, 2)), 2, [1], (("none",), 1))
        self.check(draw((0, 1)), 3, [0], (("none",), 1))
        self.check(draw((0, 1)), 3, [], (("short",), 0))
        self.check(draw((0, 1), (1, 1)), 1, [0], (("answer", 1), 1))

    def test_drawn_programs(self):
        source = random.Random(371)
        ends = {}
        for _, program, _ in DRAWN:
            for _ in range(4):
                many = grid(program) * source.randrange(1, 3)
                if many > 1000000:
                    continue
                tape = [source.randrange(many) for _ in range(source.randrange(6))]
                expected = slow_led(program, many, tape)
                self.check_equal(expected, led(program, many, tape))
                ends[expected[0][0]] = ends.get(expected[0][0], 0) + 1
        self.assertGreater(min(ends.values()), 40)

    def test_great_grids(self):
        great = draw((1, 1000000), (1, 2))
        self.check(great, 1000000, [0], (("answer", 0), 1))
        self.check(great, 1000000, [1], (("answer", 1), 1))
        self.check(great, 1000000, [500001], (("none",), 1))
        self.refused(BadGrid, led, draw((1, 1000001)), 1000001, [0])

    def test_refusals(self):
        right = {"program": EXAMPLE, "many": 4, "tape": [1, 2]}
        grids = strange_but() + [1, 2, 3, 5, 6, -4, 0, True, "4", (4,), [4], 10 ** 6 + 4, 4 * 10 ** 78]
        wrong = [("program", NO_PROGRAMS, BadProgram), ("program", OTHER_KINDS, BadKind), ("many", grids, BadGrid)]
        for function in (led, TapeRun):
            self.check_refusals(function, right, wrong + [("tape", NO_TAPES, BadTape)])
            self.refused(BadTape, function, number(0, 1), 1, [1])
            self.refused(BadTape, function, FOUR_THOUSAND, 10, [10])


class Shares(unittest.TestCase, Refusing):
    def check(self, program, many, length, expected):
        self.check_calls(shares, {"program": program, "many": many, "length": length}, expected)

    def test_the_example(self):
        self.check(EXAMPLE, 4, 1, (0, 1, 1, 2))
        self.check(EXAMPLE, 4, 2, (4, 6, 6, 0))

    def test_by_hand(self):
        self.check(EXAMPLE, 4, 0, (0, 0, 0, 1))
        self.check(EXAMPLE, 8, 1, (0, 2, 2, 4))
        self.check(number(2, 3), 1, 0, (0, 0, 1, 0, 0))
        self.check(number(2, 3), 7, 2, (0, 0, 49, 0, 0))
        self.check(never(N1), 2, 3, (0, 8, 0))
        self.check(draw((0, 1)), 5, 0, (0, 0, 1))
        self.check(draw((0, 1)), 5, 1, (0, 5, 0))
        self.check(ODD, 12, 12, (2 * 12 ** 11, 0, 3 * 12 ** 11, 7 * 12 ** 11, 0))
        self.check(COIN, 1000000, 12, (5 * 10 ** 71, 5 * 10 ** 71, 0, 0))

    def test_against_all_tapes(self):
        told = 0
        for k, program, walks in DRAWN:
            many = grid(program)
            for length in range(0, 5):
                if many ** length > 300:
                    break
                found = [0] * (k + 2)
                for tape in product(range(many), repeat=length):
                    end, _ = led(program, many, list(tape))
                    found[{"answer": end[-1], "none": k, "short": k + 1}[end[0]]] += 1
                self.check_equal(tuple(found), shares(program, many, length))
                told += 1
        self.assertGreater(told, 400)

    def test_of_lengths_up_to_twelve(self):
        for k, program, walks in DRAWN[:150]:
            many = grid(program)
            if many > 1000000:
                continue
            deepest = max(len(row[0]) for row in walks)
            ahead = None
            for length in range(0, 13):
                found = shares(program, many, length)
                self.assertEqual(many ** length, sum(found))
                part = [Fraction(whole, many ** length) for whole in found[:k]]
                if ahead is not None:
                    self.assertTrue(all(one <= other for one, other in zip(ahead, part)))
                ahead = part
                if length >= deepest:
                    self.assertEqual([frac(chance) for chance in run(program)], part)
                    self.assertEqual(0, found[-1])
                else:
                    self.assertGreater(found[-1], 0)

    def test_too_many(self):
        for length in (0, 1, 12):
            self.assertEqual(4000, self.refused(TooMany, shares, OVER, 10, length).most)
        self.assertEqual((10 ** 8, 0, 0, 0), shares(FOUR_THOUSAND, 10, 8))

    def test_refusals(self):
        right = {"program": EXAMPLE, "many": 4, "length": 2}
        grids = strange_but() + [1, 2, 3, 5, 6, -4, 0, True, "4", (4,)]
        lengths = [value for value in STRANGE if not (type(value) is int and value in (0, 1, 7))] + [13, -1, True, "2", (2,), [2]]
        self.check_refusals(shares, right, [
            ("program", NO_PROGRAMS, BadProgram), ("program", OTHER_KINDS, BadKind), ("many", grids, BadGrid), ("length", lengths, BadLength),
        ])
        self.refused(BadGrid, shares, OVER, 7, 13)
        self.refused(BadLength, shares, OVER, 10, 13)


class Steps(unittest.TestCase, Refusing):
    def check_run(self, program, many, tape):
        walk, left = led_walk(program, many, tape)
        going = TapeRun(program=program, many=many, tape=tape)
        while True:
            state = (going.done, going.used, going.end(), going.ahead(), going.waiting())
            expected = (walk.done, len(tape) - len(left), walk.end, walk.path, walk.waits())
            self.assertEqual(repr(expected), repr(state))
            going.waiting().append("changed")
            if walk.end is not None:
                break
            try:
                walk.step()
            except Short:
                self.assertIs(False, going.step())
                self.assertEqual((("short",), None), (going.end(), going.ahead()))
                self.assertEqual(state[:2] + state[4:], (going.done, going.used, going.waiting()))
                break
            self.assertIs(True, going.step())
        for _ in range(2):
            ended = (going.done, going.used, going.end(), going.waiting())
            self.assertIs(False, going.step())
            self.assertEqual(ended, (going.done, going.used, going.end(), going.waiting()))
        self.assertEqual((going.end(), going.used), led(program, many, tape))
        return going

    def test_the_example(self):
        self.check_run(EXAMPLE, 4, [0, 2])
        self.check_run(EXAMPLE, 4, [0, 3])
        self.check_run(EXAMPLE, 4, [0])
        self.check_run(EXAMPLE, 4, [])

    def test_by_hand(self):
        going = TapeRun(EXAMPLE, 4, [1])
        self.assertEqual(((), 0, 0, None, []), (going.ahead(), going.done, going.used, going.end(), going.waiting()))
        self.assertIs(True, going.step())
        self.assertEqual(((1,), [("handed", (2,))]), (going.ahead(), going.waiting()))
        going.step()
        self.assertEqual(((1, 3), []), (going.ahead(), going.waiting()))
        going.step()
        self.assertEqual(((1, 3, 1), [("case", (1, 3))]), (going.ahead(), going.waiting()))
        going.step()
        self.assertEqual(((2,), [("case", (1, 3))]), (going.ahead(), going.waiting()))
        self.assertIs(True, going.step())
        self.assertEqual(((1, 3, 2, 0), [], 5, 1), (going.ahead(), going.waiting(), going.done, going.used))
        going.step()
        self.assertEqual((2,), going.ahead())
        self.assertIsNone(going.end())
        self.assertIs(False, going.step())
        self.assertEqual((("short",), None, 6, 1), (going.end(), going.ahead(), going.done, going.used))

    def test_what_waits(self):
        program = take("y", case(call(fun("x", N2, X), COIN), number(0, 1), number(0, 1)), name("y"))
        going = TapeRun(program, 2, [1])
        for _ in range(3):
            going.step()
        self.assertEqual([("handed", (2, 1, 2)), ("case", (2,)), ("take", ())], going.waiting())

    def test_drawn_programs(self):
        source = random.Random(381)
        ends = {}
        for _, program, _ in DRAWN:
            many = grid(program)
            if many > 1000000:
                continue
            going = self.check_run(program, many, [source.randrange(many) for _ in range(source.randrange(6))])
            ends[going.end()[0]] = ends.get(going.end()[0], 0) + 1
        self.assertGreater(min(ends.values()), 20)

    def test_a_tape_that_is_changed_later(self):
        tape = [2]
        going = TapeRun(EXAMPLE, 4, tape)
        tape[0] = 3
        tape.append(1)
        while going.step():
            pass
        self.assertEqual((("answer", 1), 1), (going.end(), going.used))

    def test_objects(self):
        going = TapeRun(EXAMPLE, 4, (0,))
        self.assertNotEqual(going, None)
        self.assertNotEqual(going, 0)
        self.assertNotEqual(going, (EXAMPLE, 4, (0,)))
        with self.assertRaises(TypeError):
            list(going)
        for word in ("ahead", "step", "end", "waiting"):
            self.assertIn(word, vars(TapeRun))

    def test_how_often_is_what_branches_tell(self):
        for _, program, walks in DRAWN[:80]:
            told = sum((frac(part) for part in means(program).values()), Fraction(0))
            self.assertEqual(told, sum((frac(row[2]) * sum(row[3].values()) for row in walks), Fraction(0)))


class Facts(unittest.TestCase):
    def test_handed_and_taken(self):
        source = random.Random(391)
        once = most_once = 0
        for _ in range(300):
            kind = source.choice([N2, N3])
            body = Maker(source, letters="abc").make(N2, 3, {"x": kind})
            given = Maker(source, source.random() < 0.5).make(kind, 1)
            handing, taking = call(fun("x", kind, body), given), take("x", given, body)
            if not is_small(handing):
                continue
            points = [len(calls) for row in table(fun("x", kind, body)) for calls, _ in row]
            always = sum((frac(part) for part in run(given)), Fraction(0)) == 1
            if all(many == 1 for many in points):
                self.assertEqual(run(handing), run(taking))
                once += 1
            if always and all(many <= 1 for many in points):
                self.assertEqual(run(handing), run(taking))
                most_once += 1
        self.assertGreater(once, 20)
        self.assertGreater(most_once, 50)

    def test_what_is_taken_is_run_once(self):
        program = take("x", COIN, case(X, X, X))
        self.assertEqual((1, 1), means(program)[(2,)])
        self.assertTrue(all(len(draws) == 1 for draws, _, _ in branches(program)))
        self.assertEqual(HALF, run(program)[0])


if __name__ == "__main__":
    unittest.main()
