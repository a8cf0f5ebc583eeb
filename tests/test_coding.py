"""coding.py: point 54, with point 14."""

import random
import unittest

from chancepoints.coding import compiled, source_of
from chancepoints.errors import BadProgram
from chancepoints.terms import is_program, kind_of, same_but_names
from tests.helping import Refusing, STRANGE
from tests.oracle import COIN, KINDS, Maker, call, case, draw, fun, name, never, num, number, take, to
from tests.shapes import X
from tests.test_meaning import NO_PROGRAMS
from tests.test_terms import plain

N1, N2, N3 = num(1), num(2), num(3)
F = to(N2, N2)
A, B, Y = name("a"), name("b"), name("y")
EXAMPLE = call(fun("x", N2, X), number(1, 2))
EXAMPLE_CODE = (("hand", 3, N2), ("grab", N2), ("look", 0), ("number", 1, 2))
LETTERS = "abcdefghijklmnopqrstuvwxyz"


def nth(at):
    return LETTERS[at] if at < 26 else LETTERS[at // 26 - 1] + LETTERS[at % 26]


def with_list(value):
    """All values that come of a nested tuple if one tuple in it becomes a list."""
    if not isinstance(value, tuple):
        return []
    found = [list(value)]
    for at, part in enumerate(value):
        found.extend(value[:at] + (changed,) + value[at + 1:] for changed in with_list(part))
    return found


class Compiled(unittest.TestCase, Refusing):
    def check(self, program, *rows):
        self.check_calls(compiled, {"program": program}, rows)

    def test_the_example(self):
        self.check(EXAMPLE, *EXAMPLE_CODE)

    def test_each_word(self):
        self.check(number(2, 3), ("number", 2, 3))
        self.check(draw((1, 2), (1, 3)), ("draw", ((1, 2), (1, 3))))
        self.check(never(F), ("never", F))
        self.check(fun("x", F, number(0, 1)), ("grab", F), ("number", 0, 1))
        self.check(fun("x", F, X), ("grab", F), ("look", 0))
        self.check(take("x", COIN, X), ("take", 2), ("draw", ((1, 2), (1, 2))), ("look", 0))
        self.check(case(COIN, number(0, 3), number(2, 3)), ("case", (2, 3)), COIN, ("number", 0, 3), ("number", 2, 3))
        self.check(call(never(to(F, N1)), never(F)), ("hand", 2, F), ("never", to(F, N1)), ("never", F))

    def test_places_of_larger_parts(self):
        inner = case(X, X, number(1, 2))
        program = call(fun("x", N2, take("y", inner, case(Y, call(fun("z", N2, name("z")), X), inner))), inner_free())
        self.check(
            program,
            ("hand", 17, N2), ("grab", N2), ("take", 7), ("case", (5, 6)), ("look", 0), ("look", 0), ("number", 1, 2),
            ("case", (9, 13)), ("look", 1), ("hand", 12, N2), ("grab", N2), ("look", 2), ("look", 0),
            ("case", (15, 16)), ("look", 0), ("look", 0), ("number", 1, 2),
            ("take", 19), ("number", 1, 2), ("case", (21, 22)), ("look", 0), ("number", 0, 2), ("look", 0),
        )

    def test_hidden_names_are_in_sight(self):
        self.check(fun("x", N2, fun("x", N3, X)), ("grab", N2), ("grab", N3), ("look", 1))
        self.check(fun("x", N2, fun("y", N3, X)), ("grab", N2), ("grab", N3), ("look", 0))
        self.check(
            fun("x", N2, fun("x", N3, fun("y", N2, case(X, Y, Y, Y)))),
            ("grab", N2), ("grab", N3), ("grab", N2), ("case", (5, 6, 7)), ("look", 1), ("look", 2), ("look", 2), ("look", 2),
        )
        self.check(fun("x", N2, take("x", X, X)), ("grab", N2), ("take", 3), ("look", 0), ("look", 1))
        self.check(
            call(fun("x", N2, X), take("x", COIN, X)),
            ("hand", 3, N2), ("grab", N2), ("look", 0), ("take", 5), COIN, ("look", 0),
        )

    def test_the_kind_of_what_is_handed(self):
        self.check(
            fun("x", F, call(fun("y", F, number(0, 1)), X)),
            ("grab", F), ("hand", 4, F), ("grab", F), ("number", 0, 1), ("look", 0),
        )
        self.check(
            take("x", number(2, 3), call(fun("y", N3, number(0, 1)), X)),
            ("take", 2), ("number", 2, 3), ("hand", 5, N3), ("grab", N3), ("number", 0, 1), ("look", 0),
        )

    def test_refusals(self):
        self.check_refusals(compiled, {"program": EXAMPLE}, [("program", NO_PROGRAMS, BadProgram)])


def moved(row, by):
    """A row of a code behind so many more rows, which bind one more thing."""
    if row[0] == "take":
        return ("take", row[1] + by)
    if row[0] == "case":
        return ("case", tuple(place + by for place in row[1]))
    return row


def inner_free():
    return take("q", number(1, 2), case(name("q"), number(0, 2), name("q")))


class SameCode(unittest.TestCase):
    """HEART: two programs have the same code exactly if they are same_but_names."""

    def test_random_pairs(self):
        source = random.Random(71)
        same = 0
        for _ in range(400):
            kind = source.choice([N2, F])
            one, other = Maker(source).make(kind, 1), Maker(source).make(kind, 1)
            self.assertIs(same_but_names(one, other), compiled(one) == compiled(other))
            same += compiled(one) == compiled(other)
        self.assertGreater(same, 20)

    def test_other_names_give_the_same_code(self):
        source = random.Random(72)
        for _ in range(150):
            program = Maker(source).make(source.choice(KINDS), 4)
            self.assertEqual(compiled(program), compiled(plain(program)))


class SourceOf(unittest.TestCase, Refusing):
    def check(self, code, expected):
        self.check_calls(source_of, {"code": code}, expected)

    def test_the_example(self):
        self.check(EXAMPLE_CODE, call(fun("a", N2, A), number(1, 2)))

    def test_bindings_in_the_order_in_which_they_stand(self):
        program = call(fun("x", F, take("y", take("z", COIN, name("z")), call(X, Y))), fun("x", N2, X))
        expected = call(fun("a", F, take("b", take("c", COIN, name("c")), call(A, B))), fun("d", N2, name("d")))
        self.check(compiled(program), expected)
        self.check(compiled(fun("x", N2, fun("x", N2, X))), fun("a", N2, fun("b", N2, B)))
        self.check(compiled(fun("b", N2, fun("a", N2, B))), fun("a", N2, fun("b", N2, A)))

    def test_there_and_back(self):
        source = random.Random(73)
        for _ in range(200):
            program = Maker(source).make(source.choice(KINDS), 4)
            code = compiled(program)
            made = source_of(code)
            self.assertTrue(same_but_names(program, made))
            self.assertEqual(code, compiled(made))
            self.assertEqual(renumbered(plain(program)), made)

    def test_many_bindings(self):
        for many in [26, 27, 52, 53, 60, 140]:
            # In one case, since there are at most 50 levels: takes side by side.
            program, count = number(0, 1), 0
            rows = []
            while count < many:
                row = number(0, 1)
                for _ in range(min(40, many - count)):
                    row = take("x", number(0, 1), row)
                    count += 1
                rows.append(row)
            program = case(draw(*[(1, 6)] * len(rows)), *rows)
            told = repr(source_of(compiled(program)))
            for at in range(many):
                self.assertEqual(1, told.count(f"('take', '{nth(at)}',"), nth(at))
            self.assertNotIn(f"'{nth(many)}'", told)
        self.assertEqual(["z", "aa", "az", "ba"], [nth(at) for at in (25, 26, 51, 52)])

    def test_the_least_and_the_largest_codes(self):
        self.check((("number", 0, 1),), number(0, 1))
        deep = number(0, 1)
        for _ in range(49):
            deep = fun("x", N1, deep) if kind_of(fun("x", N1, deep)) else take("x", number(0, 1), deep)
        self.assertEqual(compiled(deep), compiled(source_of(compiled(deep))))
        self.check((("take", 2), ("number", 0, 1)) * 49 + (("number", 0, 1),), None)

    def test_cases_of_one_way_and_of_six(self):
        for k in range(1, 7):
            program = case(draw(*[(0, 1)] * k), *[number(at, 6) for at in range(k)])
            self.check(compiled(program), program)

    def test_just_three_hundred_rows(self):
        part = case(draw(*[(1, 6)] * 6), *[number(at, 6) for at in range(6)])
        row = case(draw(*[(1, 6)] * 6), *[part] * 5, number(0, 6))
        large = case(draw(*[(1, 6)] * 6), *[row] * 6)
        self.assertEqual(260, len(compiled(large)))
        for many in (18, 19, 20):
            # Takes of two nodes each ahead of it, which binds nth(0), nth(1), ..
            program = large
            for at in reversed(range(many)):
                program = take(nth(at), number(0, 1), program)
            self.assertEqual(260 + 2 * many, len(compiled(program)))
            self.check(compiled(program), program)
        code = compiled(program)
        self.assertEqual(300, len(code))
        longer = (("take", 2), ("number", 0, 1)) + tuple(moved(row, 2) for row in code)
        self.check(longer, None)

    def test_strange_values(self):
        for value in STRANGE:
            self.check(value, None)
        for value in [number(0, 1), EXAMPLE, "code", (("number", 0, 1), None), (None,), ((),), (("number",),), ([],)]:
            self.check(value, None)

    def test_lists_in_the_place_of_tuples(self):
        for program in [EXAMPLE, case(COIN, number(0, 3), number(2, 3)), take("x", COIN, X), never(F), fun("x", F, X)]:
            for changed in with_list(compiled(program)):
                self.check(changed, None)

    def test_rows_exchanged_missing_doubled_or_more(self):
        programs = [EXAMPLE, case(COIN, number(0, 3), number(2, 3)), call(fun("x", N2, take("y", X, case(Y, X, Y))), COIN)]
        for program in programs:
            code = compiled(program)
            for at in range(len(code)):
                self.check(code[:at] + code[at + 1:], None)
                doubled = code[:at + 1] + code[at:]
                self.check(doubled, None)
                for other in range(at):
                    changed = list(code)
                    changed[at], changed[other] = changed[other], changed[at]
                    if tuple(changed) != code:
                        found = source_of(tuple(changed))
                        self.assertTrue(found is None or compiled(found) == tuple(changed))
            self.check(code + (("number", 0, 1),), None)
            self.check(code + code, None)
            self.check((), None)

    def test_wrong_places_numbers_and_kinds(self):
        wrong = [
            (("hand", 2, N2),) + EXAMPLE_CODE[1:], (("hand", 4, N2),) + EXAMPLE_CODE[1:], (("hand", 1, N2),) + EXAMPLE_CODE[1:],
            (("hand", 3, N3),) + EXAMPLE_CODE[1:], (("hand", True, N2),) + EXAMPLE_CODE[1:], (("hand", 3),) + EXAMPLE_CODE[1:],
            (("hand", 3, F),) + EXAMPLE_CODE[1:], (("hand", -1, N2),) + EXAMPLE_CODE[1:], (("hand", 3, N2, 0),) + EXAMPLE_CODE[1:],
            EXAMPLE_CODE[:1] + (("grab", N3),) + EXAMPLE_CODE[2:], EXAMPLE_CODE[:1] + (("grab", num(7)),) + EXAMPLE_CODE[2:],
            EXAMPLE_CODE[:1] + (("grab",),) + EXAMPLE_CODE[2:], EXAMPLE_CODE[:1] + (("grab", N2, N2),) + EXAMPLE_CODE[2:],
            EXAMPLE_CODE[:2] + (("look", 1),) + EXAMPLE_CODE[3:], EXAMPLE_CODE[:2] + (("look", -1),) + EXAMPLE_CODE[3:],
            EXAMPLE_CODE[:2] + (("look", False),) + EXAMPLE_CODE[3:], EXAMPLE_CODE[:2] + (("look",),) + EXAMPLE_CODE[3:],
            EXAMPLE_CODE[:2] + (("look", 0, 0),) + EXAMPLE_CODE[3:], EXAMPLE_CODE[:2] + (("look", "x"),) + EXAMPLE_CODE[3:],
            EXAMPLE_CODE[:2] + (("name", "a"),) + EXAMPLE_CODE[3:], EXAMPLE_CODE[:2] + (("look", None),) + EXAMPLE_CODE[3:],
            EXAMPLE_CODE[:3] + (("number", 2, 2),), EXAMPLE_CODE[:3] + (("number", True, 2),), EXAMPLE_CODE[:3] + (("number", 1, 3),),
            EXAMPLE_CODE[:3] + (number(1, 2) + (0,),), EXAMPLE_CODE[:3] + (EXAMPLE,), (EXAMPLE,), (fun("a", N2, A),),
            (("look", 0),), (("grab", N2),), (("take", 2), ("number", 0, 1)), (("take", 2), ("number", 0, 1), ("look", 1)),
            (("take", 1), ("number", 0, 1), ("look", 0)), (("take", (2,)), ("number", 0, 1), ("look", 0)),
            (("take", 2, 2), ("number", 0, 1), ("look", 0)), (("take", True), ("number", 0, 1), ("look", 0)),
            (("case", (2, 3)), ("number", 0, 2), ("number", 0, 1)), (("case", (2,)), ("number", 0, 2), ("number", 0, 1)),
            (("case", (3, 2)), COIN, ("number", 0, 1), ("number", 0, 1)), (("case", (2, 2)), COIN, ("number", 0, 1), ("number", 0, 1)),
            (("case", ()), ("number", 0, 1)), (("case", 2), ("number", 0, 1), ("number", 0, 1)), (("case",), COIN),
            (("case", [2]), ("number", 0, 1), ("number", 0, 1)), (("case", "ab"), COIN, ("number", 0, 1), ("number", 0, 1)),
            (("case", (2, 3), 0), COIN, ("number", 0, 1), ("number", 0, 1)), (("case", (2,) * 7), COIN),
            (("case", (2, 3)), COIN, ("number", 0, 1), ("number", 0, 2)), (("draw", ((1, 2), (2, 3))),), (("draw", ((2, 4),)),),
            (("draw", ((True, 2),)),), (("draw", ()),), (("draw", ((1, 2),), 0),), (("never", num(0)),), (("never",),),
            (("fun", N2), ("look", 0)), (("call", 2, N2),) + EXAMPLE_CODE[1:], (("Hand", 3, N2),) + EXAMPLE_CODE[1:],
            ((None, 3, N2),) + EXAMPLE_CODE[1:], (("to", N2, N2),), (("num", 2),), N2,
        ]
        for code in wrong:
            self.check(code, None)
        self.check((("case", (2, 3)), COIN, ("number", 0, 1), ("number", 0, 1)), case(COIN, number(0, 1), number(0, 1)))
        self.check((("take", 2), ("number", 0, 1), ("look", 0)), take("a", number(0, 1), A))

    def test_too_many_rows_or_too_deep(self):
        row = (("take", 2), ("number", 0, 1))
        for many in [49, 50, 60, 300, 1300]:
            rows = []
            for at in range(many):
                rows.extend([("take", 2 * at + 2), ("number", 0, 1)])
            code = tuple(rows) + (("look", 0),)
            self.assertIs(many <= 49, source_of(code) is not None)
        self.check(row * 2000, None)
        self.check((("grab", N1),) * 4000, None)
        part = (("number", 0, 1),) * 4000
        self.check(part, None)

    def test_each_code_has_one_source_with_plain_names(self):
        source = random.Random(74)
        for _ in range(60):
            program = Maker(source).make(source.choice(KINDS), 3)
            first = source_of(compiled(program))
            self.assertEqual(first, source_of(compiled(first)))
            self.assertTrue(is_program(first))
            self.assertEqual(kind_of(program), kind_of(first))


def renumbered(expression):
    """The expression of plain() with q and two letters exchanged for the names of source_of."""
    if isinstance(expression, str) and len(expression) == 3 and expression[0] == "q":
        return nth(LETTERS.index(expression[1]) * 26 + LETTERS.index(expression[2]))
    if isinstance(expression, tuple):
        return tuple(renumbered(part) for part in expression)
    return expression


if __name__ == "__main__":
    unittest.main()
