"""weights.py: point 11, and what points 3, 4 and 7 say of weights."""

import random
import unittest
from fractions import Fraction

from chancepoints.errors import BadNumber, BadWeight, TooMany
from chancepoints.weights import is_below, is_weight, less, plus, summed, times, weight
from tests.helping import Refusing, STRANGE, nested

BIG = 10 ** 79 + 7
RIGHT = [(0, 1), (1, 1), (-1, 1), (1, 2), (-3, 2), (7, 3), (BIG, 1), (-BIG, 10 ** 79), (1, BIG)]
WRONG = STRANGE + [
    (2, 4), (0, 2), (0, -1), (0, 0), (1, 0), (1, -2), (-1, -2), (BIG * 3, 9), (True, 1), (1, True),
    (False, 1), (True, True), [1, 2], [0, 1], (1, 2, 3), (1,), (), (1, None), (None, 1), ("1", 2),
    (1, "2"), ((1,), 2), (1, (2,)), (1, [2]), 1, 0, "1/2", {1: 2}, {"top": 1}, (1, 2, 1), ((1, 2), (1, 2)),
]
RIGHT_PAIR = {"one": (1, 2), "other": (1, 3)}
NOT_WHOLE = [None, True, False, "1", "", [], (1,), (), {}, (1, 2), TooMany(1), nested(lambda part: [part], [])]


def told(fraction):
    return (fraction.numerator, fraction.denominator)


def value(pair):
    return Fraction(pair[0], pair[1])


class IsWeight(unittest.TestCase):
    def test_weights(self):
        for pair in RIGHT:
            self.assertIs(True, is_weight(pair), pair)
            self.assertIs(True, is_weight(value=pair), pair)

    def test_no_weights(self):
        for pair in WRONG:
            self.assertIs(False, is_weight(pair), pair)

    def test_small_pairs_one_by_one(self):
        for top in range(-12, 13):
            for bottom in range(-12, 13):
                right = bottom > 0 and told(Fraction(top, bottom)) == (top, bottom)
                self.assertIs(right, is_weight((top, bottom)))


class Weight(unittest.TestCase, Refusing):
    def test_shortened(self):
        self.assertEqual((1, 2), weight(2, 4))
        self.assertEqual((0, 1), weight(0, 5))
        self.assertEqual((0, 1), weight(0, -5))
        self.assertEqual((3, 1), weight(3))
        self.assertEqual((-3, 1), weight(-3))
        self.assertEqual((-1, 2), weight(2, -4))
        self.assertEqual((1, 2), weight(-2, -4))
        self.assertEqual((BIG, 10 ** 79), weight(-BIG * 6, -6 * 10 ** 79))

    def test_as_fractions(self):
        for top in range(-9, 10):
            for bottom in range(-9, 10):
                if bottom != 0:
                    self.assertEqual(told(Fraction(top, bottom)), weight(top, bottom))

    def test_by_position_and_by_name(self):
        self.check_calls(weight, {"top": 6, "bottom": -4}, (-3, 2))
        self.assertEqual((5, 1), weight(top=5))

    def test_refusals(self):
        wrong = [("top", NOT_WHOLE, BadNumber), ("bottom", NOT_WHOLE + [0], BadNumber)]
        self.check_refusals(weight, {"top": 1, "bottom": 2}, wrong)


class Reckoning(unittest.TestCase, Refusing):
    def setUp(self):
        source = random.Random(11)
        sizes = [3, 10, 1000, 10 ** 25, 10 ** 80 - 1]
        self.pairs = [(one, other) for one in RIGHT for other in RIGHT]
        for _ in range(300):
            high = source.choice(sizes)
            one = Fraction(source.randint(-high, high), source.randint(1, high))
            other = Fraction(source.randint(-high, high), source.randint(1, source.choice(sizes)))
            self.pairs.append((told(one), told(other)))

    def test_plus_times_less(self):
        for one, other in self.pairs:
            self.assertEqual(told(value(one) + value(other)), plus(one, other))
            self.assertEqual(told(value(one) * value(other)), times(one, other))
            self.assertEqual(told(value(one) - value(other)), less(one, other))

    def test_is_below(self):
        for one, other in self.pairs:
            self.assertIs(value(one) < value(other), is_below(one, other))
        self.assertIs(False, is_below((1, 2), (1, 2)))
        self.assertIs(True, is_below((-1, 2), (-1, 3)))
        self.assertIs(True, is_below((-1, 2), (0, 1)))
        self.assertIs(False, is_below((1, BIG), (1, BIG + 1)))

    def test_results_are_weights(self):
        for one, other in self.pairs:
            for function in (plus, times, less):
                self.assertTrue(is_weight(function(one, other)))

    def test_by_position_and_by_name(self):
        self.check_calls(plus, RIGHT_PAIR, (5, 6))
        self.check_calls(times, RIGHT_PAIR, (1, 6))
        self.check_calls(less, RIGHT_PAIR, (1, 6))
        self.check_calls(is_below, RIGHT_PAIR, False)

    def test_refusals(self):
        wrong = [("one", WRONG, BadWeight), ("other", WRONG, BadWeight)]
        for function in (plus, times, less, is_below):
            self.check_refusals(function, RIGHT_PAIR, wrong)


class Summed(unittest.TestCase, Refusing):
    def test_sums(self):
        self.check_calls(summed, {"weights": []}, (0, 1))
        self.check_calls(summed, {"weights": ()}, (0, 1))
        self.check_calls(summed, {"weights": [(1, 2), (1, 3), (1, 6)]}, (1, 1))
        self.check_calls(summed, {"weights": ((1, 2), (-1, 2))}, (0, 1))
        self.check_calls(summed, {"weights": [(BIG, 1), (-1, 2)]}, (2 * BIG - 1, 2))

    def test_many(self):
        parts = [told(Fraction(at, at + 1)) for at in range(400)]
        self.assertEqual(told(sum(value(part) for part in parts)), summed(parts))

    def test_refusals(self):
        lists = [part for part in STRANGE if part not in ([], ())]
        lists += [(1, 2), [1, 2], {(1, 2): 1}, {}, "12", [(1, 2), (2, 4)], [(1, 2), None], [[1, 2]]]
        lists += [((1, 2), (1, True)), [[(1, 2)]], [(1, 2), 1]]
        self.check_refusals(summed, {"weights": []}, [("weights", lists, BadWeight)])


if __name__ == "__main__":
    unittest.main()
