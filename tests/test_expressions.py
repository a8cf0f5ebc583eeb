"""terms.py: what names, expressions and paths are, points 8 and 13."""

import random
import unittest

from chancepoints.errors import BadExpression, BadPath
from chancepoints.terms import free_names, is_expression, is_name, part_at, paths, with_part
from tests.helping import Refusing, STRANGE, nested
from tests.oracle import KINDS, Maker, call, case, draw, fun, name, never, nodes, num, number, take
from tests.shapes import RIGHT, WORDS, WRONG_NAMES, X, tall, wide, wrong

WRONG = STRANGE + wrong()
EACH = call(
    fun("x", num(2), case(name("x"), number(0, 1), take("y", draw((1, 2)), name("y")))), never(num(2)),
)
EACH_PATHS = [
    (), (1,), (1, 3), (1, 3, 1), (1, 3, 2, 0), (1, 3, 2, 1), (1, 3, 2, 1, 2), (1, 3, 2, 1, 3), (2,),
]
WRONG_PATHS = [
    None, True, 0, 1, "", "1", [], [1], {}, {1: 1}, (0,), (3,), (-1,), (1, 1), (1, 2), (1, 0), (1, 3, 2), (1, 3, 0),
    (1, 3, 2, 2), (1, 3, 2, -1), (1, 3, 1, 1), (1, 3, (2, 0)), (2, 1), (True,), (1, 3, True), (1, 3, 2, False),
    (1, 3, 2, True), (None,), ("1",), ((),), ((1,),), (1.0,), (1,) * 4000, (10 ** 79,), (1, 3, 2, 0, 1),
    nested(lambda part: (part,), ()), nested(lambda part: [part], []),
]


class Names(unittest.TestCase):
    def test_names(self):
        for word in ["a", "z", "x", "abcdefgh", "zzzzzzzz", "number", "name", "cases", "tak", "funs", "row"]:
            self.assertIs(True, is_name(word), word)
            self.assertIs(True, is_name(value=word))

    def test_each_letter(self):
        for letter in "abcdefghijklmnopqrstuvwxyz":
            for length in range(1, 9):
                self.assertIs(True, is_name(letter * length))
            self.assertIs(False, is_name(letter * 9))
            self.assertIs(False, is_name(letter.upper()))

    def test_no_names(self):
        for word in STRANGE + WRONG_NAMES:
            self.assertIs(False, is_name(word), word)

    def test_just_eight_words_are_kept(self):
        self.assertEqual(8, len(WORDS))
        for word in WORDS:
            self.assertIs(False, is_name(word))
            self.assertIs(True, is_name(word + "a"))


class Expressions(unittest.TestCase, Refusing):
    def test_right_ones(self):
        for value in RIGHT:
            self.check_calls(is_expression, {"value": value}, True)

    def test_wrong_ones(self):
        for value in WRONG:
            self.check_calls(is_expression, {"value": value}, False)

    def test_nodes_and_levels_are_counted_as_they_stand(self):
        self.assertEqual(300, len(nodes(wide(300))))
        self.assertEqual(50, len(nodes(tall(50))))
        self.assertIs(True, is_expression(case(X, wide(298))))
        self.assertIs(False, is_expression(case(X, wide(299))))
        self.assertIs(True, is_expression(case(tall(49), tall(49), tall(49), tall(49))))
        self.assertIs(False, is_expression(case(X, X, tall(50))))

    def test_a_part_that_stands_often_counts_as_often(self):
        part = wide(49)
        self.assertIs(True, is_expression(case(X, *[part] * 6)))
        self.assertIs(False, is_expression(case(X, X, *[wide(60)] * 5)))
        shared = X
        for _ in range(40):
            shared = call(shared, shared)
        self.assertIs(False, is_expression(shared))

    def test_random_programs_are_expressions(self):
        source = random.Random(3)
        for _ in range(200):
            self.assertIs(True, is_expression(Maker(source).make(source.choice(KINDS), 3)))


class FreeNames(unittest.TestCase, Refusing):
    def test_free_and_bound(self):
        cases = [
            (X, ["x"]),
            (number(0, 1), []),
            (fun("x", num(2), X), []),
            (fun("x", num(2), name("y")), ["y"]),
            (call(fun("x", num(2), X), X), ["x"]),
            (take("x", X, X), ["x"]),
            (take("x", number(0, 1), X), []),
            (take("x", name("y"), call(X, name("z"))), ["y", "z"]),
            (fun("x", num(2), fun("x", num(3), X)), []),
            (call(fun("x", num(2), take("x", X, X)), name("b")), ["b"]),
            (case(name("b"), name("c"), name("a"), name("b")), ["a", "b", "c"]),
            (case(name("ab"), name("b"), name("a"), name("aa")), ["a", "aa", "ab", "b"]),
            (fun("x", num(2), call(fun("x", num(2), X), X)), []),
            (call(take("x", number(0, 1), X), X), ["x"]),
            (never(num(1)), []),
            (draw((1, 1)), []),
        ]
        for expression, free in cases:
            self.check_calls(free_names, {"expression": expression}, free)

    def test_refusals(self):
        self.check_refusals(free_names, {"expression": X}, [("expression", WRONG, BadExpression)])


class Paths(unittest.TestCase, Refusing):
    def test_of_each_form(self):
        self.check_calls(paths, {"expression": X}, [()])
        self.check_calls(paths, {"expression": number(0, 1)}, [()])
        self.check_calls(paths, {"expression": draw((1, 1))}, [()])
        self.check_calls(paths, {"expression": never(num(1))}, [()])
        self.check_calls(paths, {"expression": fun("x", num(1), X)}, [(), (3,)])
        self.check_calls(paths, {"expression": call(X, X)}, [(), (1,), (2,)])
        self.check_calls(paths, {"expression": take("x", X, X)}, [(), (2,), (3,)])
        six = [(), (1,), (2, 0), (2, 1), (2, 2), (2, 3), (2, 4), (2, 5)]
        self.check_calls(paths, {"expression": case(X, X, X, X, X, X, X)}, six)
        self.check_calls(paths, {"expression": EACH}, EACH_PATHS)

    def test_ascending_and_leading_to_each_node(self):
        source = random.Random(4)
        for _ in range(100):
            made = Maker(source).make(source.choice(KINDS), 4)
            self.assertEqual(sorted(path for path, _ in nodes(made)), paths(made))
            for path, node in nodes(made):
                self.assertEqual(node, part_at(made, path))

    def test_large_ones(self):
        self.assertEqual(300, len(paths(wide(300))))
        self.assertEqual([(3,) * at for at in range(50)], paths(tall(50)))

    def test_part_at(self):
        for path, node in nodes(EACH):
            self.check_calls(part_at, {"expression": EACH, "path": path}, node)

    def test_refusals(self):
        self.check_refusals(paths, {"expression": X}, [("expression", WRONG, BadExpression)])
        right = {"expression": EACH, "path": (2,)}
        both = [("expression", WRONG, BadExpression), ("path", WRONG_PATHS, BadPath)]
        self.check_refusals(part_at, right, both)
        for path in [(1,), (2,), (3,), (1, 3)]:
            self.refused(BadPath, part_at, X, path)
        self.refused(BadPath, part_at, fun("x", num(2), X), (2,))
        self.refused(BadPath, part_at, draw((1, 2)), (1,))
        self.refused(BadPath, part_at, draw((1, 2)), (1, 0))


class WithPart(unittest.TestCase, Refusing):
    def test_each_place(self):
        new = number(1, 3)
        one = case(X, X, X)
        cases = [
            (X, (), new), (fun("x", num(2), X), (3,), fun("x", num(2), new)),
            (call(X, X), (1,), call(new, X)), (call(X, X), (2,), call(X, new)),
            (take("x", X, X), (2,), take("x", new, X)), (take("x", X, X), (3,), take("x", X, new)),
            (one, (1,), case(new, X, X)), (one, (2, 0), case(X, new, X)), (one, (2, 1), case(X, X, new)),
            (call(one, one), (2, 2, 1), call(one, case(X, X, new))),
        ]
        for expression, path, expected in cases:
            self.check_calls(with_part, {"expression": expression, "path": path, "part": new}, expected)

    def test_back_again(self):
        for path, node in nodes(EACH):
            changed = with_part(EACH, path, never(num(6)))
            self.assertEqual(never(num(6)), part_at(changed, path))
            self.assertEqual(EACH, with_part(changed, path, node))

    def test_names_are_bound_where_they_come_to_stand(self):
        self.assertEqual(fun("x", num(2), X), with_part(fun("x", num(2), number(0, 2)), (3,), X))

    def test_too_many_nodes(self):
        big = call(X, wide(298))
        self.assertEqual(call(X, wide(298)), with_part(big, (1,), X))
        self.refused(BadExpression, with_part, big, (1,), fun("x", num(2), X))
        self.assertEqual(call(wide(2), X), with_part(with_part(big, (2,), X), (1,), wide(2)))
        self.refused(BadExpression, with_part, wide(300), paths(wide(300))[-1], wide(2))
        self.assertEqual(wide(300), with_part(wide(4), (), wide(300)))

    def test_too_many_levels(self):
        low = (3,) * 49
        self.assertEqual(number(0, 1), part_at(with_part(tall(50), low, number(0, 1)), low))
        self.refused(BadExpression, with_part, tall(50), low, fun("x", num(2), X))
        self.refused(BadExpression, with_part, tall(2), (3,), tall(50))
        self.assertEqual(tall(50), with_part(tall(2), (3,), tall(49)))

    def test_refusals(self):
        right = {"expression": EACH, "path": (2,), "part": X}
        wrongs = [("expression", WRONG, BadExpression), ("path", WRONG_PATHS, BadPath), ("part", WRONG, BadExpression)]
        self.check_refusals(with_part, right, wrongs)


if __name__ == "__main__":
    unittest.main()
