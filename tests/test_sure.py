"""sure.py: points 47 to 52."""

import random
import unittest
from fractions import Fraction
from math import comb

from chancepoints.alike import alike, is_surrounding
from chancepoints.apart import parted, told_surrounding
from chancepoints.errors import BadKind, BadNumber, BadProgram, TooMany
from chancepoints.meaning import table
from chancepoints.sure import is_sure, sure_alike, sure_parted, sure_table, told_sure
from chancepoints.tries import counted
from chancepoints.weighing import chances_with
from tests.helping import Refusing, STRANGE
from tests.oracle import (
    COIN, HALF, KINDS, Maker, call, case, draw, frac, fun, is_small, measured, name, never, num, number, split, take, to, weight,
)
from tests.parting import Parting
from tests.shapes import X
from tests.test_apart import HIGH, PRIMES
from tests.test_kinds import WRONG as KINDS_WRONG
from tests.test_manners import NO_PROGRAMS, TWICE
from tests.test_meaning import JUST, OVER, used_times

N1, N2, N3, N6 = num(1), num(2), num(3), num(6)
F = to(N2, N2)
G = to(F, N2)
H = to(G, N2)
ALL = (1, 1)
ZERO, ONE = number(0, 2), number(1, 2)
C0 = (0, (), 0)
# Unlike programs that are sure-alike.
PAIRS = [
    (fun("x", N2, ONE), fun("x", N2, case(X, ONE, ONE))),
    (fun("x", N3, COIN), fun("x", N3, case(X, COIN, COIN, COIN))),
    (fun("x", N2, case(X, never(N2), ONE)), fun("x", N2, case(X, case(X, never(N2), never(N2)), case(X, ONE, ONE)))),
    (fun("f", F, ZERO), fun("f", F, case(call(name("f"), COIN), ZERO, ZERO))),
    (fun("f", F, fun("x", N2, X)), fun("f", F, fun("x", N2, take("y", call(name("f"), X), X)))),
]
SURE = [
    number(0, 1), COIN, draw((1, 1)), draw((0, 1), (1, 1)), fun("x", N2, X), TWICE, fun("f", F, call(name("f"), COIN)),
    fun("f", G, call(name("f"), fun("x", N2, case(X, X, COIN)))), case(number(0, 2), COIN, never(N2)),
    call(fun("x", N2, ONE), never(N2)), fun("x", N2, case(draw((0, 1), ALL), never(N2), X)),
    fun("x", N2, call(fun("y", N2, X), never(N2))), take("x", COIN, case(X, COIN, COIN)),
    fun("f", to(F, N2), call(name("f"), fun("x", N2, call(fun("y", N2, X), draw(HALF, (0, 1)))))),
]
NOT_SURE = [
    never(N1), never(H), draw((1, 2)), draw((0, 1)), draw((1, 3), (1, 3)), fun("x", N2, never(N2)), fun("x", N2, case(X, X, never(N2))),
    fun("f", F, call(name("f"), never(N2))), fun("f", F, call(name("f"), draw(HALF, (1, 3)))), take("x", draw(HALF, (1, 3)), ONE),
    # What is handed may come to it.
    fun("g", G, call(name("g"), fun("x", N2, case(X, X, never(N2))))), case(COIN, COIN, never(N2)),
]


def slow_product(rows):
    found = {(): Fraction(1)}
    for row in rows:
        made = {}
        for point, worth in found.items():
            for behind, factor in row.items():
                key = tuple(sorted(point + behind))
                made[key] = made.get(key, 0) + worth * factor
        found = {point: worth for point, worth in made.items() if worth}
    return found


def slow_sure(told, kind, around=()):
    """The sure table of a table, by the words of point 48."""
    own, _ = split(kind)
    things = list(around) + own
    rows = []
    for row in told:
        sums = {}
        for calls, worth in row:
            for point, factor in slow_product([slow_call(one, things) for one in calls]).items():
                sums[point] = sums.get(point, 0) + frac(worth) * factor
        rows.append(tuple((point, weight(sums[point])) for point in sorted(sums) if sums[point]))
    return tuple(rows)


def slow_call(one, things):
    v, tables, b = one
    kinds, k = split(things[v])
    inner = tuple(slow_sure(part, kind, things) for part, kind in zip(tables, kinds))
    if b < k - 1 or not all(slow_is_sure(part) for part in inner):
        return {((v, inner, b),): Fraction(1)}
    return {(): Fraction(1), **{((v, inner, other),): Fraction(-1) for other in range(k - 1)}}


def slow_is_sure(told):
    sums = {}
    for row in told:
        for point, worth in row:
            sums[point] = sums.get(point, 0) + frac(worth)
    return {point: worth for point, worth in sums.items() if worth} == {(): 1}


class TellingSure:
    """Told sure things, made by the words of points 41 and 51; nothing is looked at for its size."""

    def __init__(self, deep, many, seed):
        self.deep, self.many, self.seed = deep, many, seed
        self.used = 0

    def next(self, c):
        self.used += 1
        return Fraction(1, c * PRIMES[self.used - 1] ** self.seed)

    def drawing(self, k):
        parts = [self.next(2 * k) for _ in range(k - 1)]
        return draw(*[weight(part) for part in parts + [1 - sum(parts)]])

    def surrounding(self, kind):
        return self.handed(name("h"), kind)

    def handed(self, made, kind):
        for part in split(kind)[0]:
            made = call(made, self.thing(part))
        return made

    def thing(self, kind):
        kinds, k = split(kind)
        if not kinds:
            return self.drawing(k)
        testers = []
        for at, part in enumerate(kinds):
            inner, j = split(part)
            for _ in range(self.many if inner else 1):
                asked = self.handed(name("x" + "abcdefghijkl"[at]), part)
                draws = []
                for _ in range(j):
                    u = self.next(1)
                    draws.append(draw(weight(u), weight(1 - u)))
                testers.append(case(asked, *draws))
        test = testers.pop()
        while testers:
            test = case(COIN, testers.pop(), test)
        body = self.drawing(k)
        for _ in range(self.deep):
            go = Fraction(1, 2) - self.next(4)
            ws = self.drawing(k)
            body = case(draw(weight(go), weight(1 - go)), case(name("t"), body, number(k - 1, k)), ws)
        made = call(fun("t", N2, body), test)
        for at in range(len(kinds) - 1, -1, -1):
            made = fun("x" + "abcdefghijkl"[at], kinds[at], made)
        return made


class SureTable(unittest.TestCase, Refusing):
    def check(self, program, expected):
        self.check_calls(sure_table, {"program": program}, expected)

    def test_the_examples(self):
        for program in PAIRS[0]:
            self.check(program, ((), (((), (1, 1)),)))
        self.check(fun("x", N2, X), (((((0, (), 0),), (1, 1)),), (((), (1, 1)), (((0, (), 0),), (-1, 1)))))

    def test_by_hand(self):
        self.check(COIN, ((((), HALF),), (((), HALF),)))
        self.check(never(N2), ((), ()))
        self.check(fun("x", N1, used_times(5)[3]), ((((), ALL),),))
        # 0 comes twice, or 0 and then 1, or 1.
        self.check(TWICE, ((((C0, C0), ALL),), (((), ALL), ((C0, C0), (-1, 1)))))
        three = fun("x", N3, X)
        c1 = (0, (), 1)
        self.check(three, ((((C0,), ALL),), (((c1,), ALL),), (((), ALL), ((C0,), (-1, 1)), ((c1,), (-1, 1)))))

    def test_calls_that_are_handed_what_is_sure(self):
        sure = fun("f", F, call(name("f"), COIN))
        inner = table(COIN)
        self.check(sure, (((((0, (inner,), 0),), ALL),), (((), ALL), (((0, (inner,), 0),), (-1, 1)))))
        # What is handed is not sure, so the answer is not told by the other ones.
        part = ((((), HALF),), ())
        self.check(fun("f", F, call(name("f"), draw(HALF, (0, 1)))), (((((0, (part,), 0),), ALL),), ((((0, (part,), 1),), ALL),)))

    def test_drawn_programs(self):
        source = random.Random(481)
        seen = 0
        for _ in range(400):
            kind = source.choice(KINDS + HIGH)
            program = Maker(source, source.random() < 0.6).make(kind, source.choice([2, 3]))
            try:
                expected = slow_sure(table(program), kind)
                found = sure_table(program)
            except TooMany:
                continue
            self.check_equal(expected, found)
            self.assertIs(slow_is_sure(expected), is_sure(program))
            seen += expected != table(program)
        self.assertGreater(seen, 80)

    def test_kinds_that_are_nearly_the_same(self):
        # The last number of what is handed to what is handed is another one.
        high, other = to(F, N2), to(to(N3, N2), N2)
        two = call(name("f"), fun("x", N2, X))
        three = call(name("g"), fun("y", N3, case(name("y"), ZERO, ONE, ONE)))
        for kinds, body in [((high, other), case(two, three, ZERO)), ((other, high), case(three, two, ONE))]:
            words = ("f", "g") if kinds[0] == high else ("g", "f")
            program = fun(words[0], kinds[0], fun(words[1], kinds[1], body))
            self.check(program, slow_sure(table(program), to(*kinds, N2)))

    def test_too_many(self):
        self.assertEqual(4000, self.refused(TooMany, sure_table, OVER).most)
        self.assertEqual(((((), ALL),),), sure_table(JUST))

    def test_larger_than_tables(self):
        # A sure table may be larger: (1 less a less b) to 30 has 496 points, of up to 30 calls each.
        program = fun("x", N3, call(fun("y", N3, self.named("y", 30)), X))
        found = sure_table(program)
        expected = {}
        for zeros in range(31):
            for ones in range(31 - zeros):
                ways = comb(30, zeros) * comb(30 - zeros, ones) * (-1) ** (zeros + ones)
                expected[(C0,) * zeros + ((0, (), 1),) * ones] = (ways, 1)
        self.assertEqual(496, len(expected))
        self.assertEqual((tuple(sorted(expected.items())),), found)

    def named(self, x, many):
        body = number(0, 1)
        for _ in range(many):
            body = case(name(x), never(N1), never(N1), body)
        return body

    def test_refusals(self):
        for function in (sure_table, is_sure):
            self.check_refusals(function, {"program": TWICE}, [("program", NO_PROGRAMS, BadProgram)])


class IsSure(unittest.TestCase, Refusing):
    def test_sure_ones_and_others(self):
        for program in SURE:
            self.check_calls(is_sure, {"program": program}, True)
        for program in NOT_SURE:
            self.check_calls(is_sure, {"program": program}, False)

    def test_whole_programs_are_sure(self):
        source = random.Random(491)
        for _ in range(150):
            kind = source.choice(KINDS + HIGH)
            program = Maker(source, True).make(kind, 3)
            self.assertIs(True, is_sure(program))

    def test_runs_of_drawn_programs(self):
        source = random.Random(492)
        seen = {True: 0, False: 0}
        for _ in range(250):
            kind = source.choice([N2, F, to(N3, N2), to(N2, N2, N2), G, to(F, N2, N2), H])
            program = Maker(source, source.random() < 0.4).make(kind, 3)
            told = TellingSure(1, 1, 1)
            things = [told.thing(part) for part in split(kind)[0]]
            whole = sum(frac(part) for part in chances_with(program, things)) == 1
            self.assertIs(whole, is_sure(program))
            seen[whole] += 1
        self.assertGreater(min(seen.values()), 40)


class SureAlike(unittest.TestCase, Refusing):
    def check(self, one, other, expected):
        self.check_calls(sure_alike, {"one": one, "other": other}, expected)
        self.check_calls(sure_alike, {"one": other, "other": one}, expected)

    def test_pairs(self):
        for one, other in PAIRS:
            self.check(one, other, True)
            self.assertIs(False, alike(one, other))
            self.assertIs(is_sure(one), is_sure(other))
        self.check(COIN, case(COIN, COIN, COIN), True)
        self.check(COIN, number(0, 2), False)
        self.check(fun("x", N2, X), TWICE, False)
        self.check(never(N2), draw((0, 1), (0, 1)), True)
        self.check(fun("x", N2, never(N2)), fun("x", N2, case(X, never(N2), never(N2))), True)
        # Handed on to what is not sure it makes a difference.
        self.check(fun("f", F, call(name("f"), never(N2))), fun("f", F, call(name("f"), ONE)), False)
        more = fun("f", F, case(call(name("f"), never(N2)), ONE, ONE))
        self.check(more, fun("f", F, ONE), False)

    def test_drawn_programs(self):
        source = random.Random(501)
        seen = {True: 0, False: 0}
        for _ in range(300):
            kind = source.choice([N2, F, F, to(N2, N2, N2), G, H])
            maker = Maker(source, source.random() < 0.5)
            one, other = maker.make(kind, 2), maker.make(kind, 2)
            expected = slow_sure(table(one), kind) == slow_sure(table(other), kind)
            self.assertIs(expected, sure_alike(one, other))
            if alike(one, other):
                self.assertIs(True, expected)
            seen[expected] += 1
        self.assertGreater(seen[True], 15)

    def test_refusals(self):
        wrong = [("one", NO_PROGRAMS, BadProgram), ("other", NO_PROGRAMS, BadProgram)]
        wrong.append(("other", [COIN, fun("x", N2, number(0, 3)), fun("x", N3, ZERO), never(G)], BadKind))
        for function in (sure_alike, sure_parted):
            self.check_refusals(function, {"one": TWICE, "other": TWICE}, wrong)
            self.refused(BadKind, function, OVER, COIN)
            self.assertEqual(4000, self.refused(TooMany, function, JUST, OVER).most)
            self.assertEqual(4000, self.refused(TooMany, function, OVER, OVER).most)


class ToldSure(unittest.TestCase, Refusing):
    def check(self, kind, deep, many, seed, expected):
        self.check_calls(told_sure, {"kind": kind, "deep": deep, "many": many, "seed": seed}, expected)

    def test_of_numbers(self):
        self.check(N3, 1, 9, 4, name("h"))
        self.check(F, 1, 1, 1, call(name("h"), draw((1, 8), (7, 8))))
        self.check(F, 3, 2, 2, call(name("h"), draw((1, 16), (15, 16))))
        self.check(to(N1, N2), 1, 1, 1, call(name("h"), draw((1, 1))))
        self.check(to(N3, N1, N2, N2), 1, 1, 1, call(name("h"), draw((1, 12), (1, 18), (31, 36)), draw((1, 1)), draw((1, 20), (19, 20))))

    def test_of_one_argument_by_hand(self):
        asked = case(name("xa"), draw(HALF, HALF), draw((1, 3), (2, 3)))
        go = draw((13, 28), (15, 28))
        body = case(go, case(name("t"), draw((1, 20), (19, 20)), ONE), draw((1, 44), (43, 44)))
        self.check(G, 1, 1, 1, call(name("h"), fun("xa", N2, call(fun("t", N2, body), asked))))
        go = draw((25, 52), (27, 52))
        body = case(go, case(name("t"), body, ONE), draw((1, 68), (67, 68)))
        self.check(G, 2, 5, 1, call(name("h"), fun("xa", N2, call(fun("t", N2, body), asked))))

    def test_several_arguments_by_hand(self):
        # xa has arguments, so it is tested twice; xb has none, so once.
        first = case(call(name("xa"), draw((1, 12), (1, 18), (31, 36))), draw((1, 5), (4, 5)))
        second = case(call(name("xa"), draw((1, 42), (1, 66), (74, 77))), draw((1, 13), (12, 13)))
        third = case(name("xb"), draw((1, 17), (16, 17)), draw((1, 19), (18, 19)))
        go = Fraction(1, 2) - Fraction(1, 4 * 29)
        body = case(draw(weight(go), weight(1 - go)), case(name("t"), draw((1, 92), (91, 92)), ONE), draw((1, 124), (123, 124)))
        told = fun("xa", to(N3, N1), fun("xb", N2, call(fun("t", N2, body), case(COIN, first, case(COIN, second, third)))))
        self.check(to(to(to(N3, N1), N2, N2), N2), 1, 2, 1, call(name("h"), told))

    def test_all_numbers_of_rounds(self):
        source = random.Random(511)
        seen = {True: 0, False: 0}
        for kind in HIGH + KINDS:
            for _ in range(25):
                deep, many, seed = [source.randrange(1, 10) for _ in range(3)]
                expected = TellingSure(deep, many, seed).surrounding(kind)
                seen[is_small(expected)] += 1
                if is_small(expected):
                    self.check_equal(expected, told_sure(kind, deep, many, seed))
                    self.assertTrue(is_surrounding(kind, expected))
                else:
                    self.assertEqual(300, self.refused(TooMany, told_sure, kind, deep, many, seed).most)
        self.assertGreater(seen[True], 200)
        self.assertGreater(seen[False], 5)

    def test_just_300_nodes_and_50_levels(self):
        just = over = deep_ones = 0
        for kind in HIGH + [to(to(F, F, F, N2), N2), to(to(N2, F, F, N2), N2), to(to(F, N6), N2), to(*[F] * 5, N2), to(*[G] * 3, N2)]:
            for deep in range(1, 10):
                for many in range(1, 10):
                    expected = TellingSure(deep, many, 1).surrounding(kind)
                    nodes_, levels = measured(expected)
                    if not (280 < nodes_ < 320 or 45 < levels < 55):
                        continue
                    if nodes_ <= 300 and levels <= 50:
                        self.check_equal(expected, told_sure(kind, deep, many, 1))
                        just += nodes_ > 280
                    else:
                        self.assertEqual(300, self.refused(TooMany, told_sure, kind, deep, many, 1).most)
                        over += nodes_ > 300
                        deep_ones += levels > 50
        self.assertGreater(min(just, over), 0)

    def test_told_sure_things_are_sure(self):
        for kind in HIGH:
            for seed in (1, 3):
                made = told_sure(kind, 1, 1, seed)
                while made != name("h"):
                    _, made, thing = made
                    try:
                        self.assertIs(True, is_sure(thing))
                    except TooMany:
                        self.assertGreater(measured(thing)[0], 40)

    def test_refusals(self):
        numbers = [value for value in STRANGE if not (type(value) is int and value in (1, 7))]
        numbers += [0, 10, -1, 10 ** 79, "1", (1,), [1]]
        self.check_refusals(told_sure, {"kind": F, "deep": 1, "many": 2, "seed": 3}, [("kind", KINDS_WRONG, BadKind)] + [
            (word, numbers, BadNumber) for word in ("deep", "many", "seed")
        ])


def vanishing(*seeds):
    """Two programs whose chances in told sure surroundings are alike just in rounds of these seeds.

    A sure draw comes to 0 with the chance a: they differ by the product of all 2 ** (seed + 2) * a - 1,
    made smaller.
    """
    def part(left, worth, sign):
        if not left:
            return draw(weight(abs(worth)), (0, 1)) if worth * sign > 0 else draw((0, 1), weight(abs(worth)))
        size = 2 ** (left[0] + 2)
        return case(X, part(left[1:], worth * Fraction(size - 1, size), sign), part(left[1:], -worth * Fraction(1, size), sign))
    return fun("x", N2, part(seeds, Fraction(1), 1)), fun("x", N2, part(seeds, Fraction(1), -1))


class SureParted(unittest.TestCase, Refusing, Parting):
    def check_pair(self, kind, one, other):
        return self.check_parting(kind, one, other, sure_parted, told_sure, sure_alike)

    def test_by_hand(self):
        surrounding = call(name("h"), draw((1, 8), (7, 8)))
        expected = ((1, 1, 1), surrounding, ((0, 1), ALL), ((1, 8), (7, 8)))
        self.check_calls(sure_parted, {"one": fun("x", N2, ONE), "other": fun("x", N2, X)}, expected)
        self.check_calls(sure_parted, {"one": COIN, "other": ZERO}, ((1, 1, 1), name("h"), (HALF, HALF), (ALL, (0, 1))))
        for one, other in PAIRS:
            self.check_calls(sure_parted, {"one": one, "other": other}, None)

    def test_drawn_pairs(self):
        source = random.Random(521)
        seen = {}
        for _ in range(250):
            kind = source.choice(KINDS + HIGH)
            maker = Maker(source, source.random() < 0.5)
            one, other = maker.make(kind, 3), maker.make(kind, source.choice([2, 3]))
            if is_small(one) and is_small(other):
                told = self.check_pair(kind, one, other)
                seen[told] = seen.get(told, 0) + 1
        self.assertGreater(seen[(1, 1, 1)], 100)
        self.assertGreater(seen[None], 5)

    def test_later_rounds(self):
        for seeds, told in (((1,), (1, 1, 2)), ((2,), (1, 1, 1)), ((1, 2), (1, 1, 3)), ((1, 2, 3), (1, 1, 4))):
            self.assertEqual(told, self.check_pair(F, *vanishing(*seeds)))

    def test_none_of_35_rounds(self):
        one, other = vanishing(1, 2, 3, 4, 5)
        self.assertIs(False, sure_alike(one, other))
        self.assertEqual(35, self.refused(TooMany, sure_parted, one, other).most)
        self.assertIsNotNone(parted(one, other))

    def test_counting_parts_them_as_much_as_is_wished(self):
        one, other = fun("x", N2, X), TWICE
        _, _, first, second = sure_parted(one, other)
        self.assertEqual((1, 1), (sum(frac(part) for part in first), sum(frac(part) for part in second)))
        near = [frac(counted(part, 1, 8, 8)[1]) for part in (first, second)]
        self.assertNotEqual(*near)

    def test_unlike_told_things(self):
        self.assertNotEqual(told_surrounding(F, 1, 1, 1), told_sure(F, 1, 1, 1))


if __name__ == "__main__":
    unittest.main()
