"""manners.py: points 55, 56 and 57."""

import random
import unittest
from fractions import Fraction

from chancepoints.errors import BadExpression, BadKind, BadManner, BadProgram, TooMany
from chancepoints.manners import run_by, value_form, work_by
from chancepoints.meaning import table
from chancepoints.tables import chances
from chancepoints.terms import is_program, kind_of, same_but_names
from chancepoints.weights import is_below
from tests.helping import Refusing, STRANGE
from tests.oracle import (
    COIN, HALF, KINDS, Maker, call, case, chances_of, draw, fun, name, never, nodes, num, number, take, to,
)
from tests.shapes import X, tall, wrong
from tests.trials import all_trials

MANNERS = ("name", "need", "value")
N1, N2, N3, N5 = num(1), num(2), num(3), num(5)
F = to(N2, N2)
NO_PROGRAMS = STRANGE + wrong() + [X, fun("x", N2, name("y")), call(number(0, 2), number(0, 2))]
WRONG_MANNERS = [None, True, 0, "", "Name", "lazy", "names", "by need", ("name",), ["need"], {"value": 1}, b"name"]
NONE = {"case": (0, 1), "draw": (0, 1), "grab": (0, 1), "hand": (0, 1), "look": (0, 1), "never": (0, 1)}
NONE.update({"number": (0, 1), "take": (0, 1)})
# Of point 31: x is used once or twice.
TWICE = fun("x", N2, case(X, X, number(1, 2)))
EXAMPLE = call(TWICE, draw((1, 2), (1, 4)))


def numbered(source, deep, whole=False):
    """A random program of a number, in which what is handed is often used several times."""
    kinds = [N2, N2, N2, F, to(F, N2)]
    return Maker(source, whole, kinds, "xyz", busy=True).make(N2, deep)


def fifths():
    return draw(*[(1, 5)] * 5)


def taking(parts, end):
    """Takes of all parts, one within the other, and then end."""
    for part in reversed(parts):
        end = take("x", part, end)
    return end


FOUR_THOUSAND = taking([fifths()] * 3 + [COIN] * 5, number(0, 2))


def composed(f, many):
    """The function that does f so many times."""
    body = name("y")
    for _ in range(many):
        body = call(name("f"), body)
    return call(fun("f", F, fun("y", N2, body)), f)


class RunBy(unittest.TestCase, Refusing):
    def check(self, program, manner, expected):
        self.check_calls(run_by, {"program": program, "manner": manner}, expected)

    def test_the_example(self):
        self.check(EXAMPLE, "name", ((1, 4), (3, 8)))
        self.check(EXAMPLE, "need", ((1, 2), (1, 4)))
        self.check(EXAMPLE, "value", ((1, 2), (1, 4)))

    def test_each_form(self):
        for manner in MANNERS:
            self.check(number(2, 3), manner, ((0, 1), (0, 1), (1, 1)))
            self.check(draw((1, 3), (0, 1), (1, 6)), manner, ((1, 3), (0, 1), (1, 6)))
            self.check(never(N2), manner, ((0, 1), (0, 1)))
            self.check(take("x", COIN, case(X, X, X)), manner, (HALF, HALF))
            self.check(case(COIN, number(2, 3), draw((1, 2), (0, 1), (0, 1))), manner, ((1, 4), (0, 1), (1, 2)))
            self.check(call(fun("x", N2, fun("y", N3, name("y"))), COIN, number(1, 3)), manner, ((0, 1), (1, 1), (0, 1)))
            self.check(draw((0, 1)), manner, ((0, 1),))

    def test_what_is_not_used(self):
        unused = call(fun("x", N2, number(0, 2)), never(N2))
        self.check(unused, "name", ((1, 1), (0, 1)))
        self.check(unused, "need", ((1, 1), (0, 1)))
        self.check(unused, "value", ((0, 1), (0, 1)))
        # A function that is handed is not run ahead, by value neither.
        self.check(call(fun("f", F, number(0, 2)), never(F)), "value", ((1, 1), (0, 1)))

    def test_numbers_shared_by_need(self):
        # y is handed on as x, and both are used: by need they come to one number.
        both = fun("y", N2, call(fun("x", N2, case(X, case(name("y"), number(0, 2), number(1, 2)), number(1, 2))), name("y")))
        self.check(call(both, COIN), "name", ((1, 4), (3, 4)))
        self.check(call(both, COIN), "need", (HALF, HALF))
        self.check(call(both, COIN), "value", (HALF, HALF))
        # A function that is handed is run anew at each use, by need and by value, too.
        flips = fun("f", F, case(call(name("f"), number(0, 2)), call(name("f"), number(0, 2)), number(1, 2)))
        for manner in MANNERS:
            self.check(call(flips, fun("x", N2, COIN)), manner, ((1, 4), (3, 4)))
        # What is around a function that is handed is one number by need, wherever it is used.
        around = fun("z", N2, call(flips, fun("x", N2, name("z"))))
        self.check(call(around, COIN), "name", ((1, 4), (3, 4)))
        self.check(call(around, COIN), "need", (HALF, HALF))

    def test_against_all_branches(self):
        source = random.Random(31)
        for _ in range(250):
            program = numbered(source, 4)
            for manner in MANNERS:
                told, works, many = all_trials(program, manner, kind_of(program)[1])
                self.assertLessEqual(many, 4000)
                self.assertEqual(told, run_by(program, manner), program)
                self.assertEqual(works, work_by(program, manner), program)

    def test_by_name_is_as_the_table_tells(self):
        source = random.Random(32)
        for _ in range(150):
            program = numbered(source, 4)
            self.assertEqual(chances(table(program)), run_by(program, "name"))
            self.assertEqual(chances_of(program, kind_of(program)[1]), run_by(program, "name"))

    def test_just_four_thousand_branches_and_one_more(self):
        one_more = case(COIN, FOUR_THOUSAND, number(1, 2))
        with_never = case(COIN, FOUR_THOUSAND, never(N2))
        for manner in MANNERS:
            self.check(FOUR_THOUSAND, manner, ((1, 1), (0, 1)))
            # Where a draw has no weight above nothing no branch ends.
            self.check(case(COIN, FOUR_THOUSAND, draw((0, 1), (0, 1))), manner, (HALF, (0, 1)))
            self.check(case(draw((1, 2)), FOUR_THOUSAND), manner, (HALF, (0, 1)))
            for program in (one_more, with_never):
                for function in (run_by, work_by):
                    error = self.refused(TooMany, function, program, manner)
                    self.assertEqual(4000, error.most)

    def test_branches_are_counted_by_the_manner(self):
        used = case(X, X, X)
        for _ in range(11):
            used = case(X, used, used) if len(nodes(used)) < 60 else case(X, used, number(0, 2))
        six_times = take("y", X, take("y", X, take("y", X, take("y", X, take("y", X, X)))))
        program = call(fun("x", N5, six_times), fifths())
        self.refused(TooMany, run_by, program, "name")
        self.assertEqual(((1, 5),) * 5, run_by(program, "need"))
        self.assertEqual(((1, 5),) * 5, run_by(program, "value"))
        waste = call(fun("x", N2, number(0, 1)), case(COIN, FOUR_THOUSAND, FOUR_THOUSAND))
        self.assertEqual(((1, 1),), run_by(waste, "name"))
        self.assertEqual(((1, 1),), run_by(waste, "need"))
        self.refused(TooMany, run_by, waste, "value")

    def test_many_ends_without_a_branch(self):
        dead = taking([fifths()] * 5 + [COIN], draw((0, 1), (0, 1)))
        for manner in MANNERS:
            self.assertEqual(((0, 1), (0, 1)), run_by(dead, manner))

    def test_a_thousand_cases_wait(self):
        change = fun("x", N2, case(X, number(1, 2), number(0, 2)))
        thousand = composed(composed(composed(change, 10), 10), 11)
        for manner in MANNERS:
            self.check(call(thousand, number(0, 2)), manner, ((1, 1), (0, 1)))
            self.check(call(change, call(thousand, number(0, 2))), manner, ((0, 1), (1, 1)))
            self.check(call(thousand, draw((1, 3), (1, 2))), manner, ((1, 3), (1, 2)))
        self.assertEqual((1100, 1), work_by(call(thousand, number(0, 2)), "name")["case"])

    def test_weights_of_many_digits(self):
        part = (10 ** 24 + 7, 3 * 10 ** 24 + 1)
        coin = draw(part, part)
        twice = call(fun("x", N2, case(X, case(X, X, number(1, 2)), number(1, 2))), coin)
        chance = Fraction(*part)
        self.assertEqual(chance ** 3, Fraction(*run_by(twice, "name")[0]))
        self.assertEqual(chance, Fraction(*run_by(twice, "need")[0]))

    def test_whole_programs(self):
        source = random.Random(33)
        differ = 0
        for _ in range(300):
            program = numbered(source, 6, whole=True)
            if not is_program(program) or len(nodes(program)) > 150:
                continue
            by_name = run_by(program, "name")
            by_need = run_by(program, "need")
            self.assertEqual(by_need, run_by(program, "value"))
            differ += by_name != by_need
            works, others = work_by(program, "need"), work_by(program, "value")
            for word in works:
                self.assertFalse(is_below(others[word], works[word]), program)
        self.assertGreater(differ, 10)

    def test_refusals(self):
        functions = [never(F), TWICE, fun("x", N1, number(0, 1)), tall(2)]
        for function in (run_by, work_by):
            wrongs = [
                ("program", NO_PROGRAMS, BadProgram), ("program", functions, BadKind),
                ("manner", WRONG_MANNERS, BadManner),
            ]
            self.check_refusals(function, {"program": EXAMPLE, "manner": "name"}, wrongs)
            self.refused(BadManner, function, case(COIN, FOUR_THOUSAND, FOUR_THOUSAND), "names")


class WorkBy(unittest.TestCase, Refusing):
    def check(self, program, manner, **words):
        self.check_calls(work_by, {"program": program, "manner": manner}, {**NONE, **words})

    def test_all_eight_words_ascend(self):
        self.assertEqual(sorted(NONE), list(work_by(number(0, 1), "name")))
        self.check(number(0, 1), "name", number=(1, 1))

    def test_the_example(self):
        one = (1, 1)
        half = (3, 2)
        self.check(EXAMPLE, "name", hand=one, grab=one, case=one, look=half, draw=half, number=(1, 4))
        self.check(EXAMPLE, "need", hand=one, grab=one, case=one, look=half, draw=one, number=(1, 4))
        value = {"hand": one, "draw": one, "grab": (3, 4), "case": (3, 4), "look": (5, 4), "number": (1, 4)}
        self.check(EXAMPLE, "value", **value)

    def test_rows_that_branches_share_count_once(self):
        for manner in MANNERS:
            self.check(case(COIN, number(0, 2), COIN), manner, case=(1, 1), draw=(3, 2), number=(1, 2))
            self.check(take("x", COIN, X), manner, take=(1, 1), draw=(1, 1), look=(1, 1))
            self.check(take("x", draw((1, 2), (1, 4)), X), manner, take=(1, 1), draw=(1, 1), look=(3, 4))

    def test_runs_without_an_answer(self):
        for manner in MANNERS:
            self.check(never(N2), manner, never=(1, 1))
            self.check(draw((0, 1), (0, 1)), manner, draw=(1, 1))
            self.check(case(draw((1, 3), (0, 1)), draw((0, 1)), never(N1)), manner, case=(1, 1), draw=(4, 3))
            self.check(case(draw((0, 1), (1, 3)), draw((0, 1)), never(N1)), manner, case=(1, 1), draw=(1, 1), never=(1, 3))


class ValueForm(unittest.TestCase, Refusing):
    def check(self, program, expected):
        self.check_calls(value_form, {"program": program}, expected)

    def test_each_call_of_a_number(self):
        a = name("a")
        self.check(EXAMPLE, take("a", draw((1, 2), (1, 4)), call(TWICE, a)))
        self.check(number(0, 1), number(0, 1))
        self.check(TWICE, TWICE)
        g = fun("f", F, number(0, 1))
        self.check(call(g, TWICE), call(g, TWICE))
        inner = call(TWICE, call(TWICE, COIN))
        self.check(inner, take("a", take("a", COIN, call(TWICE, a)), call(TWICE, a)))
        two = fun("x", N2, fun("y", N3, X))
        self.check(call(two, COIN, number(0, 3)), take("a", number(0, 3), call(take("a", COIN, call(two, a)), a)))
        self.check(call(g, fun("x", N2, call(TWICE, X))), call(g, fun("x", N2, take("a", X, call(TWICE, a)))))

    def test_the_name_stands_nowhere(self):
        self.check(call(fun("a", N2, name("a")), COIN), take("b", COIN, call(fun("a", N2, name("a")), name("b"))))
        unused = fun("a", N2, fun("b", N2, fun("c", N1, number(0, 1))))
        expected = take("d", number(0, 1), call(take("d", COIN, call(take("d", COIN, call(unused, name("d"))), name("d"))), name("d")))
        self.check(call(unused, COIN, COIN, number(0, 1)), expected)
        letters = "abcdefghijklmnopqrstuvwxyz"
        body = number(0, 1)
        for letter in letters:
            body = take(letter, number(0, 1), body)
        program = call(fun("a", N1, body), number(0, 1))
        self.check(program, take("aa", number(0, 1), call(fun("a", N1, body), name("aa"))))

    def test_by_name_it_does_as_the_program_by_value(self):
        source = random.Random(34)
        many = 0
        for _ in range(250):
            program = numbered(source, 4)
            made = value_form(program)
            self.assertEqual(kind_of(program), kind_of(made))
            told = run_by(program, "value")
            for manner in MANNERS:
                self.assertEqual(told, run_by(made, manner))
            many += made != program
        self.assertGreater(many, 50)

    def test_programs_of_functions(self):
        source = random.Random(35)
        for _ in range(60):
            program = Maker(source).make(source.choice(KINDS), 3)
            self.assertEqual(kind_of(program), kind_of(value_form(program)))
            self.assertTrue(same_but_names(program, program))

    def test_too_large(self):
        body = number(0, 1)
        for _ in range(24):
            body = call(fun("x", N1, body), number(0, 1))
        self.assertTrue(is_program(body))
        self.refused(BadExpression, value_form, body)
        row = number(0, 1)
        for _ in range(16):
            row = call(fun("x", N1, row), number(0, 1))
        self.assertTrue(is_program(value_form(row)))
        # 6 parts of 48 nodes: with two more nodes for each of their calls there are too many.
        wide = case(draw(*[(1, 6)] * 6), *[row] * 5, number(0, 1))
        self.assertTrue(is_program(wide))
        self.refused(BadExpression, value_form, wide)

    def test_refusals(self):
        self.check_refusals(value_form, {"program": EXAMPLE}, [("program", NO_PROGRAMS, BadProgram)])


if __name__ == "__main__":
    unittest.main()
