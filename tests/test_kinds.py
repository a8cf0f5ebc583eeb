"""kinds.py: point 12, and what points 3, 4 and 7 say of kinds."""

import random
import unittest

from chancepoints.errors import BadKind, BadKinds, BadNumber
from chancepoints.kinds import answer, arguments, is_kind, kind_from, order
from tests.helping import Refusing, STRANGE
from tests.oracle import num, split, to

TWELVE = to(*[num(2)] * 12)
THIRTEEN = to(*[num(2)] * 13)
LEFT_TWELVE = num(1)
for _ in range(11):
    LEFT_TWELVE = ("to", LEFT_TWELVE, num(6))
RIGHT = [num(k) for k in range(1, 7)] + [
    to(num(2), num(2)), to(to(num(2), num(3)), num(6)), TWELVE, LEFT_TWELVE,
    to(to(num(1), num(2), num(3)), num(4), to(num(5), num(6))),
    ("to", to(*[num(1)] * 6), to(*[num(1)] * 6)),
]
WRONG = STRANGE + [
    ("num", 0), ("num", -1), ("num", 7), ("num", "2"), ("num", (2,)), ("num", None), ("num", 2, 2), ("num", False),
    ("Num", 2), ("to", num(2), num(7)), ("to", num(0), num(2)), ("to", num(2), num(2), num(2)), ("to", num(2)),
    ["to", num(2), num(2)], ("to", ["num", 2], num(2)), ("to", num(2), ["num", 2]), ("to", 2, 2), THIRTEEN,
    ("to", LEFT_TWELVE, num(2)), ("to", num(2), TWELVE), ("to", to(*[num(1)] * 7), to(*[num(1)] * 6)),
    ("to", num(True), num(2)), (("num", 2),), [num(2)], ("from", num(2), num(2)), ("num", 10 ** 80),
]


def made_kind(source, nums):
    if nums == 1:
        return num(source.randint(1, 6))
    left = source.randint(1, nums - 1)
    return ("to", made_kind(source, left), made_kind(source, nums - left))


class Kinds(unittest.TestCase, Refusing):
    def setUp(self):
        source = random.Random(5)
        self.made = [made_kind(source, source.randint(1, 12)) for _ in range(200)]

    def test_kinds(self):
        for kind in RIGHT + self.made:
            self.check_calls(is_kind, {"value": kind}, True)

    def test_no_kinds(self):
        for kind in WRONG:
            self.check_calls(is_kind, {"value": kind}, False)

    def test_thirteen_nums_are_too_many_in_any_shape(self):
        source = random.Random(6)
        for _ in range(100):
            self.assertIs(True, is_kind(made_kind(source, 12)))
            self.assertIs(False, is_kind(made_kind(source, 13)))

    def test_arguments_and_answer(self):
        self.check_calls(arguments, {"kind": num(3)}, ())
        self.check_calls(answer, {"kind": num(3)}, 3)
        kind = to(to(num(1), num(2)), num(4), num(5))
        self.check_calls(arguments, {"kind": kind}, (to(num(1), num(2)), num(4)))
        self.check_calls(answer, {"kind": kind}, 5)
        self.assertEqual((num(2),) * 11, arguments(TWELVE))
        self.assertEqual(6, answer(LEFT_TWELVE))
        self.assertEqual(1, len(arguments(LEFT_TWELVE)))

    def test_kind_from_is_the_way_back(self):
        for kind in RIGHT + self.made:
            self.assertEqual((tuple(split(kind)[0]), split(kind)[1]), (arguments(kind), answer(kind)))
            self.assertEqual(kind, kind_from(arguments(kind), answer(kind)))
            self.assertEqual(kind, kind_from(list(arguments(kind)), answer(kind)))

    def test_kind_from(self):
        self.check_calls(kind_from, {"arguments": [], "answer": 6}, num(6))
        self.check_calls(kind_from, {"arguments": (), "answer": 1}, num(1))
        two = {"arguments": [num(2), to(num(3), num(4))], "answer": 5}
        self.check_calls(kind_from, two, to(num(2), to(num(3), num(4)), num(5)))
        self.check_calls(kind_from, {"arguments": [num(2)] * 11, "answer": 2}, TWELVE)

    def test_order(self):
        self.check_calls(order, {"kind": num(6)}, 0)
        self.check_calls(order, {"kind": to(num(2), num(2), num(2))}, 1)
        self.check_calls(order, {"kind": to(to(num(2), num(2)), num(2))}, 2)
        self.check_calls(order, {"kind": to(num(2), to(to(num(2), num(2)), num(2)), num(2))}, 3)
        self.assertEqual(11, order(LEFT_TWELVE))
        self.assertEqual(1, order(TWELVE))
        for kind in self.made:
            highest = max([order(part) + 1 for part in arguments(kind)], default=0)
            self.assertEqual(highest, order(kind))

    def test_refusals_of_one_kind(self):
        for function in (arguments, answer, order):
            self.check_refusals(function, {"kind": num(2)}, [("kind", WRONG, BadKind)])

    def test_refusals_of_kind_from(self):
        lists = [part for part in STRANGE if part not in ([], ())]
        lists += [num(2), {num(2): 1}, [num(2), num(7)], [num(2), None], [["num", 2]], (THIRTEEN,), [[num(2)]]]
        answers = [None, True, False, 0, 7, -1, "2", (2,), [2], {}, num(2), 10 ** 80]
        wrong = [("arguments", lists, BadKinds), ("answer", answers, BadNumber)]
        self.check_refusals(kind_from, {"arguments": [num(2)], "answer": 2}, wrong)
        long = {"arguments": [num(2)] * 12, "answer": 2}
        self.check_refusals(kind_from, long, [("answer", answers, BadNumber)])
        self.refused(BadKind, kind_from, **long)
        self.refused(BadKind, kind_from, [TWELVE], 2)
        self.refused(BadKind, kind_from, [num(1)] * 4000, 2)
        self.refused(BadKind, kind_from, [to(*[num(1)] * 6), to(*[num(1)] * 6)], 1)


if __name__ == "__main__":
    unittest.main()
