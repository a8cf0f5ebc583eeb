"""terms.py: kinds of expressions and names in them, points 9, 13 and 14."""

import random
import unittest

from chancepoints.errors import BadExpression, BadName, BadNames, BadPath
from chancepoints.terms import free_names, is_program, kind_of, renamed, same_but_names
from tests.helping import Refusing, STRANGE
from tests.oracle import KINDS, Maker, call, case, draw, fun, name, never, nodes, num, number, take, to
from tests.shapes import WRONG_NAMES, X, tall, wide, wrong

WRONG = STRANGE + wrong()
N2 = num(2)
N3 = num(3)
F = to(N2, N2)
Y = name("y")
FUN = fun("x", N2, X)
TWELVE = to(*[N2] * 12)
ELEVEN = to(*[N2] * 11)


class KindOf(unittest.TestCase, Refusing):
    def check(self, kind, expression, names=()):
        self.check_calls(kind_of, {"expression": expression, "names": names}, kind)
        self.check_calls(kind_of, {"expression": expression, "names": list(names)}, kind)

    def test_names(self):
        self.check(N2, X, [("x", N2)])
        self.check(F, X, [("y", N2), ("x", F)])
        self.check(None, X, [("y", N2)])
        self.check(None, X)
        self.assertIsNone(kind_of(X))
        self.assertIsNone(kind_of(expression=X))

    def test_number_draw_never(self):
        for k in range(1, 7):
            self.check(num(k), number(k - 1, k))
            self.check(num(k), draw(*[(0, 1)] * k))
        for kind in [N2, F, TWELVE]:
            self.check(kind, never(kind))

    def test_fun(self):
        self.check(F, FUN)
        self.check(to(N3, N2), fun("y", N3, X), [("x", N2)])
        self.check(None, fun("y", N3, X))
        self.check(to(N2, N3, N2), fun("x", N2, fun("y", N3, X)))
        self.check(to(F, N2, N2), fun("f", F, fun("x", N2, call(name("f"), X))))

    def test_a_fun_of_more_than_twelve_nums_has_no_kind(self):
        self.check(TWELVE, fun("x", N2, never(ELEVEN)))
        self.check(None, fun("x", N2, never(TWELVE)))
        self.check(None, call(fun("x", N2, never(TWELVE)), number(0, 2)))
        self.check(None, fun("x", TWELVE, number(0, 1)))
        self.check(to(ELEVEN, N2), fun("x", ELEVEN, number(0, 2)))
        self.check(None, call(fun("x", TWELVE, number(0, 1)), never(TWELVE)))

    def test_call(self):
        self.check(N2, call(FUN, number(0, 2)))
        self.check(None, call(FUN, number(0, 3)))
        self.check(None, call(FUN, FUN))
        self.check(None, call(number(0, 2), number(0, 2)))
        self.check(None, call(FUN, X))
        self.check(None, call(X, number(0, 2)))
        self.check(to(N3, N2), call(never(to(F, N3, N2)), FUN))
        self.check(N2, call(X, Y), [("x", F), ("y", N2)])
        self.check(None, call(Y, X), [("x", F), ("y", N2)])

    def test_case(self):
        self.check(F, case(number(0, 1), FUN))
        self.check(N3, case(X, number(0, 3), number(1, 3)), [("x", N2)])
        self.check(None, case(X, number(0, 3)), [("x", N2)])
        self.check(None, case(X, *[number(0, 3)] * 3), [("x", N2)])
        self.check(None, case(X, number(0, 3), number(0, 2)), [("x", N2)])
        self.check(None, case(X, number(0, 3), FUN), [("x", N2)])
        self.check(None, case(X, number(0, 3), Y), [("x", N2)])
        self.check(None, case(X, Y, Y), [("x", N2)])
        self.check(None, case(FUN, number(0, 3)))
        self.check(N3, case(draw(*[(1, 6)] * 6), *[number(0, 3)] * 6))

    def test_take(self):
        self.check(N2, take("x", number(0, 2), X))
        self.check(N3, take("x", number(0, 2), number(0, 3)))
        self.check(F, take("x", number(0, 2), fun("y", N2, X)))
        self.check(None, take("x", FUN, number(0, 3)))
        self.check(None, take("x", Y, number(0, 3)))
        self.check(None, take("x", number(0, 2), Y))
        self.check(None, take("x", X, X))
        self.check(N2, take("x", X, X), [("x", N2)])

    def test_bound_names_hide_the_told_ones(self):
        self.check(F, FUN, [("x", N3)])
        self.check(to(N2, N3, N3), fun("x", N2, fun("x", N3, X)))
        self.check(to(N2, F), fun("y", N2, X), [("x", F)])
        self.check(N2, take("x", X, number(0, 2)), [("x", N3)])
        self.check(N3, take("x", number(0, 3), X), [("x", F)])
        self.check(N2, call(fun("x", N3, number(0, 2)), X), [("x", N3)])
        self.check(None, call(fun("x", N3, number(0, 2)), X), [("x", N2)])
        self.check(to(N3, N2), fun("x", N3, call(fun("x", N2, X), number(0, 2))))
        self.check(N3, case(take("x", number(1, 2), X), X, X), [("x", N3)])

    def test_free_names_may_stand_for_anything_around(self):
        many = [("a" * at, num(1 + at % 6)) for at in range(1, 9)]
        for word, kind in many:
            self.check(kind, name(word), many)

    def test_large_ones(self):
        self.check(None, tall(50))
        self.check(ELEVEN, tall(11, lambda part: fun("x", N2, part)), [("x", N2)])
        deep = X
        for _ in range(49):
            deep = case(deep, number(0, 2), number(1, 2))
        self.check(N2, deep, [("x", N2)])
        self.check(None, wide(300), [("x", N2)])

    def test_refusals(self):
        names = [part for part in STRANGE if part not in ([], ())]
        names += [("x", N2), [["x", N2]], [("x", N2, N2)], [("x",)], [("x", N2), ("x", N2)], {"x": N2}, {}, "x"]
        names += [(("x", N2), ("y", N2), ("x", N3)), [("X", N2)], [("x", num(7))], [("call", N2)], [("x", ["num", 2])]]
        names += [[("x", N2), None], [(N2, "x")], [("x", to(*[N2] * 13))], [("abcdefghi", N2)], [("", N2)]]
        names += [[(word, N2)] for word in WRONG_NAMES]
        wrongs = [("expression", WRONG, BadExpression), ("names", names, BadNames)]
        self.check_refusals(kind_of, {"expression": X, "names": ()}, wrongs)


class IsProgram(unittest.TestCase, Refusing):
    def test_programs(self):
        for value in [FUN, number(0, 1), never(F), draw((1, 2)), take("x", number(0, 2), X), fun("f", F, name("f"))]:
            self.check_calls(is_program, {"value": value}, True)

    def test_no_programs(self):
        for value in WRONG + [X, fun("x", N2, Y), call(FUN, number(0, 3)), take("x", X, X), call(FUN, FUN)]:
            self.check_calls(is_program, {"value": value}, False)

    def test_random_programs(self):
        source = random.Random(8)
        for _ in range(200):
            kind = source.choice(KINDS)
            made = Maker(source).make(kind, 4)
            self.assertIs(True, is_program(made))
            self.assertEqual(kind, kind_of(made))
            self.assertEqual([], free_names(made))


class Renamed(unittest.TestCase, Refusing):
    def check(self, expression, path, word, expected):
        self.check_calls(renamed, {"expression": expression, "path": path, "name": word}, expected)

    def test_fun_and_take(self):
        self.check(FUN, (), "y", fun("y", N2, Y))
        self.check(fun("x", N2, number(0, 1)), (), "y", fun("y", N2, number(0, 1)))
        self.check(take("x", number(0, 2), X), (), "y", take("y", number(0, 2), Y))
        self.check(call(FUN, X), (1,), "y", call(fun("y", N2, Y), X))

    def test_only_what_this_node_binds(self):
        self.check(take("x", X, X), (), "y", take("y", X, Y))
        hidden = fun("x", N2, call(FUN, X))
        self.check(hidden, (), "y", fun("y", N2, call(FUN, Y)))
        self.check(hidden, (3, 1), "y", fun("x", N2, call(fun("y", N2, Y), X)))
        inner = fun("x", N2, take("x", X, X))
        self.check(inner, (), "y", fun("y", N2, take("x", Y, X)))
        self.check(inner, (3,), "y", fun("x", N2, take("y", X, Y)))
        self.check(fun("x", N2, case(X, X, Y)), (), "z", fun("z", N2, case(name("z"), name("z"), Y)))
        self.check(call(X, FUN), (2,), "abcdefgh", call(X, fun("abcdefgh", N2, name("abcdefgh"))))

    def test_back_again(self):
        self.assertEqual(FUN, renamed(renamed(FUN, (), "y"), (), "x"))
        told = call(fun("a", N2, name("a")), take("b", X, name("b")))
        for path, word in [((1,), "a"), ((2,), "b")]:
            self.assertEqual(told, renamed(renamed(told, path, "z"), path, word))

    def test_it_stays_the_same_but_for_names(self):
        source = random.Random(9)
        for _ in range(100):
            made = Maker(source).make(source.choice(KINDS), 4)
            for path, node in nodes(made):
                if node[0] in ("fun", "take"):
                    other = renamed(made, path, "fresh")
                    self.assertNotEqual(made, other)
                    self.assertIs(True, same_but_names(made, other))
                    self.assertEqual(kind_of(made), kind_of(other))

    def test_refusals(self):
        told = call(fun("x", N2, call(X, Y)), take("z", number(0, 1), number(0, 1)))
        paths = [None, True, 1, [], [1], "", {}, (0,), (3,), (), (2, 2), (2, 3), (1, 3), (1, 3, 1), (True,), (1, 2)]
        words = WRONG_NAMES + STRANGE + ["x", "y", "z"]
        wrongs = [("expression", WRONG, BadExpression), ("path", paths, BadPath), ("name", words, BadName)]
        self.check_refusals(renamed, {"expression": told, "path": (1,), "name": "a"}, wrongs)

    def test_a_name_that_only_binds_stands_there_too(self):
        self.refused(BadName, renamed, fun("x", N2, number(0, 1)), (), "x")
        self.refused(BadName, renamed, fun("x", N2, fun("y", N2, X)), (), "y")


class SameButNames(unittest.TestCase, Refusing):
    def check(self, same, one, other):
        self.check_calls(same_but_names, {"one": one, "other": other}, same)
        self.check_calls(same_but_names, {"one": other, "other": one}, same)

    def test_bound_names(self):
        self.check(True, FUN, fun("y", N2, Y))
        self.check(True, FUN, FUN)
        self.check(False, FUN, fun("y", N3, Y))
        self.check(False, FUN, fun("x", N2, Y))
        self.check(True, take("x", number(0, 2), X), take("y", number(0, 2), Y))
        self.check(False, take("x", number(0, 2), X), take("y", number(1, 2), Y))
        self.check(False, take("x", X, X), take("y", Y, Y))
        self.check(True, take("x", X, X), take("y", X, Y))

    def test_free_names_are_the_same_as_themselves_alone(self):
        self.check(True, X, X)
        self.check(False, X, Y)
        self.check(False, fun("x", N2, Y), fun("x", N2, name("z")))
        self.check(False, fun("x", N2, Y), fun("y", N2, Y))
        self.check(True, fun("x", N2, Y), fun("z", N2, Y))
        self.check(False, call(FUN, X), call(FUN, Y))
        self.check(False, call(FUN, X), call(fun("y", N2, Y), Y))
        self.check(True, call(FUN, X), call(fun("y", N2, Y), X))

    def test_hidden_names(self):
        two = fun("x", N2, fun("x", N2, X))
        self.check(True, two, fun("x", N2, fun("y", N2, Y)))
        self.check(False, two, fun("y", N2, fun("x", N2, Y)))
        self.check(True, fun("x", N2, call(FUN, X)), fun("y", N2, call(fun("y", N2, Y), Y)))
        self.check(False, fun("a", N2, fun("b", N2, name("a"))), fun("a", N2, fun("b", N2, name("b"))))
        self.check(True, fun("a", N2, fun("b", N2, name("a"))), fun("b", N2, fun("a", N2, name("b"))))
        self.check(False, fun("a", N2, fun("a", N2, name("b"))), fun("a", N2, fun("b", N2, name("b"))))
        self.check(False, fun("a", N2, fun("b", N2, call(X, Y))), fun("a", N2, fun("b", N2, call(X, name("b")))))

    def test_all_other_parts_count(self):
        pairs = [
            (number(0, 2), number(1, 2)), (number(0, 2), number(0, 3)), (number(0, 1), never(num(1))),
            (draw((1, 2)), draw((1, 3))), (draw((1, 2)), draw((1, 2), (0, 1))), (never(N2), never(N3)),
            (case(X, X), case(X, X, X)), (case(X, X, Y), case(X, Y, X)), (call(X, Y), call(Y, X)),
            (case(X, Y), call(X, Y)), (FUN, take("x", X, X)), (X, number(0, 1)), (case(X, X), case(Y, X)),
        ]
        for one, other in pairs:
            self.check(False, one, other)
            self.check(True, one, one)

    def test_against_renaming_all_bindings(self):
        source = random.Random(10)
        for _ in range(150):
            kind = source.choice(KINDS)
            one, other = Maker(source).make(kind, 2), Maker(source).make(kind, 2)
            self.check(plain(one) == plain(other), one, other)
            self.check(True, one, plain(one))

    def test_refusals(self):
        wrongs = [("one", WRONG, BadExpression), ("other", WRONG, BadExpression)]
        self.check_refusals(same_but_names, {"one": X, "other": X}, wrongs)


def plain(expression, env=None, count=None):
    """The expression with bindings called by their order; free names stay."""
    env, count = env or {}, count if count is not None else [0]
    if expression[0] == "name":
        return ("name", env.get(expression[1], expression[1]))
    if expression[0] == "call":
        return ("call", plain(expression[1], env, count), plain(expression[2], env, count))
    if expression[0] == "case":
        asked = plain(expression[1], env, count)
        return ("case", asked, tuple(plain(part, env, count) for part in expression[2]))
    if expression[0] not in ("fun", "take"):
        return expression
    word = "q" + "abcdefghijklmnopqrstuvwxyz"[count[0] // 26] + "abcdefghijklmnopqrstuvwxyz"[count[0] % 26]
    count[0] += 1
    body = {**env, expression[1]: word}
    if expression[0] == "fun":
        return ("fun", word, expression[2], plain(expression[3], body, count))
    return ("take", word, plain(expression[2], env, count), plain(expression[3], body, count))


if __name__ == "__main__":
    unittest.main()
