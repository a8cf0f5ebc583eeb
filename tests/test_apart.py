"""apart.py: points 41 and 43, with points 27 and 28."""

import random
import unittest
from fractions import Fraction

from chancepoints import apart
from chancepoints.alike import alike, chances_in, is_surrounding
from chancepoints.apart import parted, told_surrounding
from chancepoints.errors import BadKind, BadNumber, BadProgram, TooMany
from chancepoints.meaning import table
from tests.helping import Refusing, STRANGE
from tests.oracle import (
    COIN, KINDS, Maker, call, case, draw, fun, is_small, measured, name, never, nodes, num, number, nums, split, to, weight,
)
from tests.parting import Parting, rounds
from tests.shapes import X
from tests.test_kinds import WRONG as KINDS_WRONG
from tests.test_manners import NO_PROGRAMS, TWICE
from tests.test_meaning import JUST, OVER, used_times

N1, N2, N3, N6 = num(1), num(2), num(3), num(6)
F = to(N2, N2)
G = to(F, N2)
H = to(G, N2)
HIGH = [N2, F, G, H, to(H, N2), to(N3, N2), to(N2, N3, N1), to(F, F, N2), to(F, N2, N3), to(to(N2, N2, N2), N2), to(G, F, N2)]


def primes(many):
    found = []
    whole = 2
    while len(found) < many:
        if all(whole % prime for prime in found):
            found.append(whole)
        whole += 1
    return found


PRIMES = primes(2200)


def tower(k, order):
    made = num(k)
    for _ in range(order):
        made = to(made, num(k))
    return made


def vanishing(*seeds):
    """Two programs whose chances of 0 are alike just in rounds of these seeds.

    Handed a draw that comes to 0 and 1 with the chances a and b, they differ by the product of
    all 2 ** seed * a - 3 ** seed * b, made smaller.
    """
    scale = 1
    for seed in seeds:
        scale *= 3 ** seed

    def part(left, worth, sign):
        if not left:
            top, bottom = weight(Fraction(abs(worth), scale))
            return draw((top, bottom), (0, 1)) if worth * sign > 0 else never(N2)
        return case(X, part(left[1:], worth * 2 ** left[0], sign), part(left[1:], -worth * 3 ** left[0], sign))
    return fun("x", N2, part(seeds, 1, 1)), fun("x", N2, part(seeds, 1, -1))


# Of its told surroundings more than half of the nodes are draws.
MANY_DRAWS = to(to(*[to(N1, N6)] * 3, N1), N1)


class Telling:
    """Told things, made by the words of point 41; nothing is looked at for its size."""

    def __init__(self, deep, many, seed):
        self.deep, self.many, self.seed = deep, many, seed
        self.used = 0

    def next(self, worth):
        self.used += 1
        return (1, worth * PRIMES[self.used - 1] ** self.seed)

    def surrounding(self, kind):
        made = name("h")
        for part in split(kind)[0]:
            made = call(made, self.thing(part))
        return made

    def thing(self, kind):
        kinds, k = split(kind)
        if not kinds:
            return ("draw", tuple(self.next(k) for _ in range(k)))
        testers = []
        for at, part in enumerate(kinds):
            for _ in range(self.many if split(part)[0] else 1):
                asked = name("x" + "abcdefghijkl"[at])
                for inner in split(part)[0]:
                    asked = call(asked, self.thing(inner))
                testers.append(case(asked, *[draw(self.next(1)) for _ in range(split(part)[1])]))
        test = testers.pop()
        while testers:
            test = case(COIN, testers.pop(), test)
        body = ("draw", tuple(self.next(k) for _ in range(k)))
        for _ in range(self.deep):
            body = case(COIN, ("draw", tuple(self.next(k) for _ in range(k))), case(name("t"), body))
        made = call(fun("t", N1, body), test)
        for at in range(len(kinds) - 1, -1, -1):
            made = fun("x" + "abcdefghijkl"[at], kinds[at], made)
        return made


class Surroundings(unittest.TestCase, Refusing):
    def check(self, kind, deep, many, seed, expected):
        self.check_calls(told_surrounding, {"kind": kind, "deep": deep, "many": many, "seed": seed}, expected)

    def test_the_example(self):
        self.check(F, 1, 1, 1, ("call", ("name", "h"), ("draw", ((1, 4), (1, 6)))))

    def test_without_arguments(self):
        for seed in (1, 9):
            self.check(N3, 1, 9, seed, name("h"))

    def test_of_one_argument_by_hand(self):
        asked = case(name("xa"), draw((1, 2)), draw((1, 3)))
        body = case(COIN, draw((1, 22), (1, 26)), case(name("t"), draw((1, 10), (1, 14))))
        self.check(G, 1, 1, 1, call(name("h"), fun("xa", N2, call(fun("t", N1, body), asked))))
        body = case(COIN, draw((1, 34), (1, 38)), case(name("t"), body))
        self.check(G, 2, 5, 1, call(name("h"), fun("xa", N2, call(fun("t", N1, body), asked))))
        squares = case(name("t"), draw((1, 2 * 5 ** 2), (1, 2 * 7 ** 2)))
        body = case(COIN, draw((1, 2 * 11 ** 2), (1, 2 * 13 ** 2)), squares)
        asked = case(name("xa"), draw((1, 4)), draw((1, 9)))
        self.check(G, 1, 1, 2, call(name("h"), fun("xa", N2, call(fun("t", N1, body), asked))))

    def test_of_order_three_by_hand(self):
        # Two testers: each hands a draw, made first, and then has its own draws.
        first = case(call(name("xa"), draw((1, 4), (1, 6))), draw((1, 5)), draw((1, 7)))
        second = case(call(name("xa"), draw((1, 22), (1, 26))), draw((1, 17)), draw((1, 19)))
        body = case(COIN, draw((1, 111), (1, 123), (1, 129)), case(name("t"), draw((1, 69), (1, 87), (1, 93))))
        told = fun("xa", F, call(fun("t", N1, body), case(COIN, first, second)))
        self.check(to(to(F, N3), N2), 1, 2, 1, call(name("h"), told))

    def test_several_arguments_by_hand(self):
        # xa has arguments, so it is tested twice; xb has none, so once.
        first = case(call(name("xa"), draw((1, 6), (1, 9), (1, 15))), draw((1, 7)))
        second = case(call(name("xa"), draw((1, 33), (1, 39), (1, 51))), draw((1, 19)))
        third = case(name("xb"), draw((1, 23)), draw((1, 29)))
        body = case(COIN, draw((1, 2 * 41), (1, 2 * 43)), case(name("t"), draw((1, 2 * 31), (1, 2 * 37))))
        test = case(COIN, first, case(COIN, second, third))
        told = fun("xa", to(N3, N1), fun("xb", N2, call(fun("t", N1, body), test)))
        self.check(to(to(to(N3, N1), N2, N2), N2), 1, 2, 1, call(name("h"), told))
        # The row goes on from thing to thing.
        self.check(to(N2, N1, N2), 1, 1, 1, call(name("h"), draw((1, 4), (1, 6)), draw((1, 5))))
        self.check(to(N2, N1, N2), 9, 9, 3, call(name("h"), draw((1, 16), (1, 54)), draw((1, 125))))

    def test_all_numbers_of_rounds(self):
        source = random.Random(411)
        large = small = 0
        for kind in HIGH + KINDS:
            for _ in range(25):
                deep, many, seed = [source.randrange(1, 10) for _ in range(3)]
                expected = Telling(deep, many, seed).surrounding(kind)
                if is_small(expected):
                    self.check_equal(expected, told_surrounding(kind, deep, many, seed))
                    self.assertTrue(is_surrounding(kind, expected))
                    small += 1
                else:
                    self.assertEqual(300, self.refused(TooMany, told_surrounding, kind, deep, many, seed).most)
                    large += 1
        self.assertGreater(large, 5)
        self.assertGreater(small, 200)

    def test_just_300_nodes_and_50_levels(self):
        found = []
        for kind in HIGH + [to(to(F, F, F, N2), N2), to(to(to(N2, F, F, N2), N2), N2), to(to(F, N6), N2), to(*[F] * 5, N2), MANY_DRAWS]:
            for deep in range(1, 10):
                for many in range(1, 10):
                    expected = Telling(deep, many, 1).surrounding(kind)
                    nodes_, levels = measured(expected)
                    if nodes_ > 285 or levels > 45:
                        self.check_one(kind, deep, many, expected, nodes_ <= 300 and levels <= 50)
                        found.append(nodes_)
        self.assertTrue([many for many in found if 285 < many <= 300])
        self.assertTrue([many for many in found if 300 < many <= 315])

    def check_one(self, kind, deep, many, expected, told):
        if told:
            self.check_equal(expected, told_surrounding(kind, deep, many, 1))
        else:
            self.assertEqual(300, self.refused(TooMany, told_surrounding, kind, deep, many, 1).most)

    def test_many_draws(self):
        expected = Telling(1, 8, 1).surrounding(MANY_DRAWS)
        self.assertGreater(len([1 for _, node in nodes(expected) if node[0] == "draw" and node != COIN]), 150)
        self.assertTrue(is_small(expected))
        self.check(MANY_DRAWS, 1, 8, 1, expected)

    def test_too_many_at_once(self):
        # All of it would have 9 ** 11 testers.
        high = tower(1, 11)
        self.assertEqual(12, nums(high))
        self.check_one(high, 1, 1, Telling(1, 1, 1).surrounding(high), True)
        for told in ((1, 9, 1), (9, 9, 9)):
            self.assertEqual(300, self.refused(TooMany, told_surrounding, high, *told).most)

    def test_refusals(self):
        right = {"kind": F, "deep": 1, "many": 2, "seed": 3}
        numbers = [value for value in STRANGE if not (isinstance(value, int) and value is not True and value in (1, 7))]
        numbers += [0, 10, -1, 10 ** 79, "1", (1,), [1]]
        self.check_refusals(told_surrounding, right, [("kind", KINDS_WRONG, BadKind)] + [
            (word, numbers, BadNumber) for word in ("deep", "many", "seed")
        ])


class Parted(unittest.TestCase, Refusing, Parting):
    def test_the_example(self):
        one, other = fun("x", N2, number(1, 2)), fun("x", N2, case(X, number(1, 2), number(1, 2)))
        surrounding = call(name("h"), draw((1, 4), (1, 6)))
        expected = ((1, 1, 1), surrounding, ((0, 1), (1, 1)), ((0, 1), (5, 12)))
        self.check_calls(parted, {"one": one, "other": other}, expected)

    def test_alike_ones(self):
        self.check_calls(parted, {"one": COIN, "other": case(COIN, COIN, COIN)}, None)
        self.check_calls(parted, {"one": never(H), "other": fun("u", G, never(N2))}, None)

    def test_numbers(self):
        self.check_calls(parted, {"one": COIN, "other": never(N2)}, ((1, 1, 1), name("h"), ((1, 2), (1, 2)), ((0, 1), (0, 1))))

    def check_pair(self, kind, one, other):
        return self.check_parting(kind, one, other, parted, told_surrounding, alike)

    def test_random_pairs(self):
        source = random.Random(431)
        seen = {}
        for _ in range(250):
            kind = source.choice(KINDS + HIGH)
            maker = Maker(source)
            one, other = maker.make(kind, 3), maker.make(kind, source.choice([2, 3]))
            if is_small(one) and is_small(other):
                told = self.check_pair(kind, one, other)
                seen[told] = seen.get(told, 0) + 1
        self.assertGreater(seen[(1, 1, 1)], 100)
        self.assertGreater(seen[None], 5)

    def test_chances_are_those_of_tables(self):
        source = random.Random(432)
        for _ in range(60):
            kind = source.choice([F, G, to(F, N2, N2), H])
            one, other = Maker(source).make(kind, 3), Maker(source).make(kind, 3)
            found = parted(one, other)
            if found is not None:
                for program, told in ((one, found[2]), (other, found[3])):
                    self.check_equal(chances_in(kind, found[1], table(program)), told)

    def test_a_later_round(self):
        one, other = vanishing(1)
        found = parted(one, other)
        self.assertEqual((1, 1, 2), found[0])
        self.assertEqual(call(name("h"), draw((1, 8), (1, 18))), found[1])
        self.check_equal((((1, 12), (0, 1)), ((1, 18), (0, 1))), found[2:])
        for seeds, told in (((1, 2), (1, 1, 3)), ((2,), (1, 1, 1)), ((1, 3), (1, 1, 2)), ((1, 2, 3), (1, 1, 4))):
            self.assertEqual(told, self.check_pair(F, *vanishing(*seeds)))

    def test_rounds_passed_by(self):
        # Where a round has no surrounding the next one is looked at.
        high = tower(2, 7)
        kind = to(N2, high, N2)
        large = [told for told in rounds() if self.is_large(kind, told)]
        self.assertLess(min(rounds().index(told) for told in large), rounds().index((1, 1, 5)))
        one, other = [("fun", "x", N2, fun("u", high, part[3])) for part in vanishing(1, 2, 3, 4)]
        self.assertEqual((1, 1, 5), self.check_pair(kind, one, other))

    def is_large(self, kind, told):
        try:
            told_surrounding(kind, *told)
            return False
        except TooMany:
            return True

    def test_none_of_35_rounds(self):
        one, other = vanishing(1, 2, 3, 4, 5)
        self.assertFalse(alike(one, other))
        self.assertEqual(35, self.refused(TooMany, parted, one, other).most)

    def test_order_of_rounds(self):
        first = [(1, 1, 1), (1, 1, 2), (1, 2, 1), (2, 1, 1), (1, 1, 3), (1, 2, 2), (1, 3, 1), (2, 1, 2), (2, 2, 1), (3, 1, 1)]
        self.assertEqual(first, rounds()[:10])
        tried = []
        made = apart.Making

        class Noting(made):
            def __init__(self, deep, many, seed):
                tried.append((deep, many, seed))
                made.__init__(self, deep, many, seed)
        apart.Making = Noting
        try:
            self.refused(TooMany, parted, *vanishing(1, 2, 3, 4, 5))
        finally:
            apart.Making = made
        self.assertEqual(rounds(), tried)

    def test_too_large_tables(self):
        self.assertEqual(4000, self.refused(TooMany, parted, JUST, OVER).most)
        self.assertEqual(4000, self.refused(TooMany, parted, OVER, JUST).most)
        self.assertEqual((1, 1, 1), parted(JUST, used_times(3, 5))[0])

    def test_refusals(self):
        self.check_refusals(parted, {"one": TWICE, "other": TWICE}, [
            ("one", NO_PROGRAMS, BadProgram), ("other", NO_PROGRAMS, BadProgram),
            ("other", [COIN, fun("x", N2, number(0, 3)), fun("x", N3, number(0, 2)), never(G)], BadKind),
        ])
        self.refused(BadKind, parted, OVER, COIN)


if __name__ == "__main__":
    unittest.main()
