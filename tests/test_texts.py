"""texts.py: points 91 and 92."""

import random
import unittest

from chancepoints.errors import BadExpression, BadKind, BadNames, BadTable, BadText, TooMany
from chancepoints.meaning import table
from chancepoints.tables import never_table, number_table, own_table
from chancepoints.terms import is_expression, kind_of
from chancepoints.texts import completed, offers, read, read_table, table_text, text
from tests.beginnings import is_beginning, is_right, longest_beginning
from tests.helping import Refusing, STRANGE
from tests.oracle import (
    COIN, HALF, KINDS, Maker, call, case, draw, fun, is_small, measured, name, never, num, number, take, to,
)
from tests.shapes import X, wrong
from tests.test_books import balanced
from tests.test_kinds import WRONG as KINDS_WRONG
from tests.test_manners import TWICE
from tests.test_tables import wrong_tables

N1, N2, N3, N6 = num(1), num(2), num(3), num(6)
F = to(N2, N2)
G = to(F, N2)
ALL = (1, 1)
SIGNS = "\n ()/0123456789abcdefghijklmnopqrstuvwxyz"
NAMES = [("f", F), ("g", to(F, N3)), ("xx", N2), ("xy", N3), ("big", to(*[N2] * 12)), ("w", to(to(*[N2] * 6), to(*[N3] * 5)))]
NO_NAMES = [value for value in STRANGE if value not in ([], (), {})] + [
    {}, [("x", N2), ("x", N2)], [("call", N2)], [("x", num(7))], [["x", N2]], [("x", N2, N2)], ("x", N2), {"x": N2}, [("X", N2)],
]
NO_KINDS = [value for value in KINDS_WRONG if value is not None]
NO_TEXTS = [value for value in STRANGE if not isinstance(value, str)] + [b"x", ["x"], ("x",)]
RIGHT = [
    (X, [("x", F)], "x"),
    (number(0, 1), [], "(number 0 1)"),
    (number(5, 6), [], "(number 5 6)"),
    (fun("x", G, X), [], "(fun x (to (to 2 2) 2) x)"),
    (call(name("f"), X), [("f", F), ("x", N2)], "(call f x)"),
    (case(X, X, number(1, 2)), [("x", N2)], "(case 2 x x (number 1 2))"),
    (case(number(0, 1), X), [("x", F)], "(case 1 (number 0 1) x)"),
    (draw((0, 1)), [], "(draw 0)"),
    (draw((1, 1)), [], "(draw 1)"),
    (draw(HALF, (0, 1), (1, 3)), [], "(draw 1/2 0 1/3)"),
    (draw((0, 1), ALL, (0, 1)), [], "(draw 0 1 0)"),
    (draw((10 ** 79, 10 ** 80 - 1)), [], "(draw 1" + "0" * 79 + "/" + "9" * 80 + ")"),
    (take("x", COIN, X), [], "(take x 2 (draw 1/2 1/2) x)"),
    (take("x", X, fun("y", num(1), X)), [("x", N6)], "(take x 6 x (fun y 1 x))"),
    (never(to(N2, G, N1)), [], "(never (to 2 (to (to (to 2 2) 2) 1)))"),
    (never(N6), [], "(never 6)"),
]


def spaced(source, words):
    """The text with any number of blanks and line feeds wherever they may stand."""
    made = ""
    for at, sign in enumerate(words):
        if sign in " ()":
            made += source.choice(["", "", " ", "\n", " \n  ", "\n\n"])
        made += sign
        if sign in " ()":
            made += source.choice(["", "", " ", "\n", "  "])
    return source.choice(["", " ", "\n "]) + made + source.choice(["", "\n", "  "])


class TextsCase(unittest.TestCase, Refusing):
    def check_at(self, words, at, names=(), kind=None):
        """The text has a longest beginning of this length, and is not right."""
        right = {"text": words, "names": names, "kind": kind}
        self.assertEqual(at, self.refused(BadText, read, **right).at, words)
        self.assertEqual(at, self.refused(BadText, read, words, names, kind).at)
        if at < len(words):
            for function in (completed, offers):
                self.assertEqual(at, self.refused(BadText, function, words, names, kind).at)
        else:
            self.check_beginning(words, names, kind)

    def check_beginning(self, words, names=(), kind=None):
        found = completed(words, names, kind)
        self.assertTrue(found.startswith(words), (words, found))
        expression = read(found, names, kind)
        self.assertTrue(is_expression(expression))
        told = kind_of(expression, names)
        self.assertTrue(told is not None and (kind is None or told == kind))
        self.assertIsInstance(offers(words, names, kind), list)
        return found


class Texts(TextsCase):
    def test_each_form(self):
        for expression, names, words in RIGHT:
            self.check_calls(text, {"expression": expression, "names": names}, words)
            self.check_calls(read, {"text": words, "names": names, "kind": None}, expression)
            kind = kind_of(expression, names)
            self.check_calls(read, {"text": words, "names": tuple(names), "kind": kind}, expression)
            self.check_calls(completed, {"text": words, "names": names, "kind": kind}, words)
            self.refused(BadText, read, words, names, to(N3, kind))
            if not names:
                self.check_equal(words, text(expression))
                self.check_equal(expression, read(words))

    def test_there_and_back(self):
        source = random.Random(911)
        env = dict(NAMES)
        for _ in range(150):
            kind = source.choice(KINDS)
            expression = Maker(source, letters=["x", "y", "xx", "too", "f"]).make(kind, source.choice([1, 2, 3]), env)
            if is_small(expression):
                words = text(expression, NAMES)
                self.check_equal(expression, read(words, NAMES, kind))
                self.check_equal(expression, read(words, NAMES))
                self.check_equal(expression, read(spaced(source, words), NAMES, kind))

    def test_text_refused(self):
        no_kinds = [X, call(COIN, COIN), case(COIN, COIN), take("y", X, X), fun("x", to(*[N2] * 12), X), take("x", never(F), COIN)]
        self.check_refusals(text, {"expression": COIN, "names": [("z", N2)]}, [
            ("expression", STRANGE + wrong(), BadExpression), ("names", NO_NAMES, BadNames),
        ])
        for expression in no_kinds:
            self.refused(BadKind, text, expression)
            self.refused(BadKind, text, expression=expression, names=[("z", N2)])
            self.refused(BadNames, text, expression, None)

    def test_refusals_of_reading(self):
        right = {"text": "(number 0 2)", "names": [("z", N2)], "kind": N2}
        wrongs = [("text", NO_TEXTS, BadText), ("names", NO_NAMES, BadNames), ("kind", NO_KINDS, BadKind)]
        for function in (read, completed, offers):
            self.check_refusals(function, right, wrongs)
            for value in NO_TEXTS:
                self.assertIsNone(self.refused(BadText, function, value).at)
            self.refused(BadNames, function, "(((", None, None)
            self.refused(BadKind, function, "(((", (), 2)
            self.assertEqual(1, self.refused(BadText, function, "((", (), None).at)

    def test_blanks(self):
        self.check_equal(COIN, read("\n ( draw\n\n1/2   1/2 ) \n"))
        self.check_equal(fun("x", F, X), read("(fun x(to 2 2)x)"))
        self.check_equal(fun("x", F, X), read("(fun x( to 2\n2 )x)"))
        self.check_equal(case(COIN, COIN, COIN), read("(case 2(draw 1/2 1/2)(draw 1/2 1/2)(draw 1/2 1/2))"))
        for words, at in (("(draw 1/ 2)", 8), ("(draw 1 /2)", 8), ("(dra w 1)", 4), ("(number 01)", 9), ("(number 0\t1)", 9), ("(num", 4),
                          ("", 0), (" \n ", 3), ("(", 1), ("( ", 2), ("(draw 1/2 1/2", 13), ("(draw 1/2 1/2) )", 15), ("(draw 1) x", 9),
                          ("(draw 1)(", 8), ("\u00e9", 0), ("(draw \u0661)", 6), ("(draw 1)\r", 8), ("(draw)", 5), ("(draw )", 6),
                          ("()", 1), (")", 0), ("(fun x 2(number 0 2)", 20), ("(number 0 1)\x00", 12)):
            self.check_at(words, at)

    def test_the_examples(self):
        self.check_at("(number 2 2)", 10)
        self.check_at("(case 2 x 0", 10, [("x", N2)])
        self.check_at("(draw 1 1)", 8)
        self.check_at("(call (fun x 2 x) (number 0 3))", 28)


class Beginnings(TextsCase):
    def test_names(self):
        names = [("ab", N2), ("abc", N3), ("abd", F), ("b", F), ("c", to(N3, N2))]
        for words, kind, at in (
            ("abc", N2, 2), ("abd", N2, 2), ("ab", N2, None), ("b", N2, 0), ("abd", F, None), ("abc", None, None), ("abcd", None, 3),
            ("ax", None, 1), ("(call c abc)", N2, None), ("(call c ab)", N2, 10), ("(call b abc)", N2, 10), ("(call abc", None, 8),
            ("(call b ab)", N3, 6), ("(case 3 ab", None, 10), ("(case 3 ab ", None, 10), ("(case 2 abc", None, 10), ("a", N1, 0), ("c", F, 0),
            ("(call (call", N2, 11), ("(call (call c", N2, 12), ("(call (call c", None, 12), ("(call c", F, 6),
        ):
            if at is None:
                self.assertTrue(read(words, names, kind))
            else:
                self.check_at(words, at, names, kind)

    def test_names_hidden_by_a_binding(self):
        names = [("f", F), ("x", N2)]
        self.check_at("(fun f 2 (call f x))", 15, names)
        self.check_at("(fun x (to 2 2) (call f x", 24, names)
        self.check_at("(take f 2 x (call f x", 18, names)
        self.check_equal(take("f", call(name("f"), X), name("f")), read("(take f 2 (call f x) f)", names))
        self.check_at("(take y 2 y", 10, names)
        self.check_equal(fun("x", N3, fun("x", N2, X)), read("(fun x 3 (fun x 2 x))", names, to(N3, N2, N2)))
        self.check_at("(fun x 2 (fun x 3 x))", 18, names, to(N2, N3, N2))

    def test_new_names(self):
        for words, at in (
            ("(fun call 2 x)", 9), ("(fun num 2", 8), ("(fun to", 7), ("(fun toos", 9), ("(fun abcdefgh", 13), ("(fun abcdefghi", 13),
            ("(fun X", 5), ("(fun 2", 5), ("(fun (", 5), ("(fun x2", 6), ("(take draw ", 10), ("(take never2", 11), ("(fun x_", 6), ("(fun )", 5),
            ("(fun fun", 8), ("(fun fun ", 8), ("(fun taken 2", 12),
        ):
            self.check_at(words, at)

    def test_words(self):
        for words, kind, at in (
            ("(f", N2, 1), ("(n", F, 2), ("(nu", F, 2), ("(ne", F, 3), ("(d", F, 1), ("(c", F, 2), ("(callx", None, 5), ("(cal)", None, 4), ("(t", F, 2),
            ("(to", None, 2), ("(number)", None, 7), ("(num ", None, 4), ("(never(number", None, 7), ("(fun x 2 (fu", F, 10), ("(fun x 2 (d", F, 11),
            ("(fun x 2 (fun", to(N2, N2, N2), 13), ("(case 2 (f", None, 9), ("(take x 2 (f", None, 11), ("x", None, 0), ("2", None, 0),
        ):
            self.check_at(words, at, (), kind)

    def test_numbers_and_counts(self):
        for words, kind, at in (
            ("(number 6", None, 8), ("(number 5 6)", N3, 8), ("(number 5 ", N6, 10), ("(number 5 5", None, 10), ("(number 2 ", N3, 10), ("(number 2 4", N3, 10),
            ("(number 3", N3, 8), ("(number 00", None, 9), ("(number 0 0", None, 10), ("(number 0 7", None, 10), ("(number 0 12", None, 11), ("(number -", None, 8),
            ("(number 0 2 ", None, 12), ("(number 0 2 3", None, 12), ("(case 0", None, 6), ("(case 7", None, 6), ("(case 11", None, 7), ("(take x 0", None, 8),
            ("(take x 7", None, 8), ("(take x (", None, 8), ("(case (", None, 6), ("(case 6 (draw 1 0 0 0 0 0)", None, 26), ("(case 6 (draw 1 0 0 0 0)", None, 23),
            ("(case 2 (number 0 3", None, 18), ("(case 2 (draw 0 0 0", None, 18), ("(draw 0 0 0 0 0 0 0", None, 18), ("(draw 0 0)", N3, 9), ("(draw 0 0 0 ", N2, 10),
            ("(draw 0 0 ", N2, 10), ("(case 1 (number 0 1))", None, 20), ("(case 1 (number 0 1) (number 0 1) ", None, 34), ("(number x", None, 8),
        ):
            self.check_at(words, at, (), kind)

    def test_case_ways_are_of_one_kind(self):
        names = [("f", F), ("x", N2), ("y", N3)]
        for words, at in (
            ("(case 2 x f x", 12), ("(case 2 x (number 0 3) (number 0 2", 33), ("(case 2 x (fun u 2 x) (fun u 3", 29), ("(case 3 y x x y", 14),
            ("(case 2 x (never (to 2 2)) (never 2", 34), ("(case 2 x (never (to 2 2)) (never (to 2 3", 40), ("(case 2 x (fun u 2 x) (draw", 23),
        ):
            self.check_at(words, at, names)

    def test_weights(self):
        for words, at in (
            ("(draw 2", 7), ("(draw 2)", 7), ("(draw 2 ", 7), ("(draw 2/", 8), ("(draw 2/1", 9), ("(draw 2/1 ", 9), ("(draw 2/2", 9), ("(draw 2/2)", 9),
            ("(draw 2/3", 9), ("(draw 2/0", 8), ("(draw 0/", 7), ("(draw 0/1", 7), ("(draw 01", 7), ("(draw 1/1", 9), ("(draw 1/1)", 9), ("(draw 1/02", 8),
            ("(draw 2/4", 9), ("(draw 2/4 ", 9), ("(draw 2/41", 10), ("(draw 3/2", 9), ("(draw 3/2)", 9), ("(draw 3/20", 10), ("(draw -1", 6), ("(draw 1/-2", 8),
            ("(draw 1/2/3", 9), ("(draw /2", 6), ("(draw 1/2 2/3", 13), ("(draw 1/2 2/3)", 13), ("(draw 1/2 2/31", 14), ("(draw 1/2 1/2 1", 14),
            ("(draw 1/2 1/2 0 0", 17), ("(draw 1 0 0 1", 12), ("(draw 1 00", 9), ("(draw 1/2 3/5 ", 13), ("(draw 1/2 1 ", 11), ("(draw 1/2 1", 11),
            ("(draw 1/3 2/3 1/", 14), ("(draw 1.5", 7), ("(draw 1/3 (", 10), ("(draw x", 6),
        ):
            self.check_at(words, at)

    def test_weights_of_many_digits(self):
        nines = "9" * 80
        just_below = "9" * 79 + "8"
        for words, at in (
            ("(draw " + "1" * 81, 86), ("(draw " + nines, 85), ("(draw " + just_below, 86), ("(draw " + just_below + "/", 87),
            ("(draw " + just_below + "/" + nines, 167), ("(draw " + just_below + "/" + just_below, 166), ("(draw " + just_below + "/8", 87),
            ("(draw 1/" + "1" * 81, 88), ("(draw 1/1" + "0" * 80, 88), ("(draw 1/1" + "0" * 79, 88), ("(draw 7/" + "7" * 80, 87),
            ("(draw 7/" + "7" * 79, 87), ("(draw 7/" + "7" * 79 + ")", 87), ("(draw 7/" + "7" * 79 + "8", 88), ("(draw 0" + "0" * 80, 7),
        ):
            self.check_at(words, at)
            self.assertEqual(at, longest_beginning(words))
        self.check_equal(draw((10 ** 80 - 2, 10 ** 80 - 1)), read("(draw " + just_below + "/" + nines + ")"))
        # Next to nothing is left for what stands behind.
        left = "(draw " + just_below + "/" + nines + " "
        for more, at in (("1/" + nines, 250), ("0", 169), ("1/9", 171), ("1/8", 170), ("2", 168), ("2/", 168), ("1/" + just_below, 249)):
            self.check_at(left + more, at)
            self.assertEqual(at, longest_beginning(left + more))
        self.check_equal((1, 10 ** 80 - 1), read(left + "1/" + nines + ")")[1][1])

    def test_too_many_arguments_for_a_call(self):
        for kind, many in ((None, 11), (N2, 11), (F, 10), (to(*[N2] * 12), 0), (to(*[N2] * 7), 5)):
            words = "(call " * many
            self.check_at(words, len(words), (), kind)
            self.check_at(words + "(ca", len(words) + 3, (), kind)
            self.check_at(words + "(call", len(words) + 3, (), kind)
        # The function behind eleven calls has arguments of one num each.
        words = "(call " * 11 + "(fun x "
        self.check_at(words + "(", len(words), ())
        self.check_at(words + "2 (never (", len(words) + 10, ())
        words = "(call " * 10 + "(fun x "
        self.check_at(words + "(to 2 2) (never (to (", len(words) + 20, ())
        self.check_at(words + "(to 2 (", len(words) + 6, ())

    def test_kinds_of_too_many_nums(self):
        for words in (
            "(fun x (to 2 (to 2 (to 2 (to 2 (to 2 (to 2 (to 2 (to 2 (to 2 (to 2 (", "(never " + "(to 2 " * 11, "(never " + "(to 2 " * 11 + "(",
            "(never " + "(to " * 11, "(never " + "(to " * 11 + "(", "(never " + "(to " * 12, "(fun x " + "(to " * 10, "(fun x " + "(to " * 11,
            "(fun x (to 2 2) (fun y (to " + "2 (to " * 8,
        ):
            self.check_at(words, longest_beginning(words))
        self.check_at("(never " + "(to 2 " * 11 + "(", 73)
        self.check_at("(never " + "(to " * 12, 51)
        self.check_at("(fun x " + "(to " * 11, 47)
        # A body of any kind has no more nums than are left.
        eleven = "(fun x " + "(to 2 " * 10 + "2" + ")" * 10 + " "
        self.check_at(eleven + "(f", len(eleven) + 1)
        self.check_at(eleven + "(never (", len(eleven) + 7)
        self.check_at(eleven + "(call (fun y 2 (f", len(eleven) + 16)
        self.check_at(eleven + "(call (fun y (to 2 2) ", len(eleven) + 22)

    def test_names_by_patterns(self):
        self.check_at("(call big", 9, NAMES, to(*[N2] * 11))
        self.check_at("(call big", 6, NAMES, N3)
        self.check_at("(call (call g f) xx", 12, NAMES)
        self.check_at("(fun y (to 2 2) big", 16, NAMES)
        self.check_at("(fun y 2 (call w", 16, NAMES)
        for words in ("(call w", "(call big", "(fun y 2 (call big", "(fun y (to 2 2) (call big", "(call (call (call w", "(fun y (to 2 2) (call w"):
            self.check_at(words, longest_beginning(words, NAMES), NAMES)

    def test_just_300_nodes_and_50_levels(self):
        for expression in (balanced(300), balanced(299), deep(50), deep(49)):
            self.check_equal(expression, read(text(expression)))
        for many in (298, 299, 300):
            words = text(balanced(many))
            # With a node more in the place of the last one.
            at = words.rindex("(number")
            left = 300 - many
            self.check_at(words[:at] + "(c", at + (2 if left >= 2 else 1))
            self.check_at(words[:at] + "(t", at + (2 if left >= 2 else 1))
            self.check_at(words[:at] + "(case 1", at + 7 if left >= 2 else at + 1)
            self.check_at(words[:at] + "(case 2", at + 6 if left >= 2 else at + 1)
        words = text(fun("z", N2, balanced(298)))[:-1]
        self.check_equal(299, measured(read(words + ")"))[0])
        long_case = "(case 6 (draw 0 0 0 0 0 0) "
        words = long_case + text(balanced(288)) + " (number 0 1)" * 5 + ")"
        self.assertEqual(295, measured(read(words))[0])
        full = long_case + text(balanced(293)) + " (number 0 1)" * 4
        self.check_at(full + " (c", len(full) + 2)
        self.check_equal(300, measured(read(full + " (number 0 1))"))[0])
        more = long_case + text(balanced(291)) + " (number 0 1)" * 4 + " (case "
        self.check_at(more + "2", len(more))
        self.check_at(more + "1", len(more) + 1)

    def test_just_50_levels(self):
        for opening, closing in (("(case 1 (number 0 1) ", ")"), ("(take x 1 (number 0 1) ", ")"), ("(case 1 ", " (number 0 1))")):
            words = opening * 49
            self.check_equal(50, measured(read(words + "(number 0 1)" + closing * 49))[1])
            self.check_at(words + "(c", len(words) + 1)
            self.check_at(words + "(t", len(words) + 1)
            self.check_at(words + "(n", len(words) + 2)
            words = opening * 48
            self.check_at(words + "(case 1 (", len(words) + 9)
            self.check_at(words + "(case 1 (c", len(words) + 9)
        calls = "(call (fun x 2 " * 24
        self.check_at(calls + "(c", len(calls) + 2)
        self.check_at(calls + "(call (", len(calls) + 7)
        self.check_at(calls + "(call (f", len(calls) + 7)
        self.check_at(calls + "(call (n", len(calls) + 8)

    def test_mutations_against_a_slow_search(self):
        source = random.Random(912)
        rights = 0
        for _ in range(500):
            names = NAMES if source.random() < 0.6 else []
            kind = source.choice(KINDS)
            expression = Maker(source, letters=["x", "y", "xx", "z", "f"]).make(kind, source.choice([1, 2, 3]), dict(names))
            if not is_small(expression):
                continue
            words = text(expression, names)
            if len(words) > 200:
                continue
            if source.random() < 0.3:
                words = spaced(source, words)
            for _ in range(source.choice([1, 1, 2])):
                words = self.mutated(source, words)
            told = source.choice([kind, kind, None, source.choice(KINDS)])
            at = longest_beginning(words, names, told)
            if at == len(words) and is_right(words, names, told):
                rights += 1
                self.assertIsNotNone(kind_of(read(words, names, told), names))
            else:
                self.check_at(words, at, names, told)
        self.assertGreater(rights, 20)

    def mutated(self, source, words):
        at = source.randrange(len(words) + 1)
        part = source.choice(SIGNS)
        if source.random() < 0.3:
            part = source.choice(["(call ", "(fun z 2 ", "(never ", "(to ", "f", "xx", "(draw 1/3 ", "(case 3 ", "(take q 4 ", " "])
        way = source.randrange(4)
        if way == 0:
            return words[:at] + part + words[at:]
        if way == 1:
            return words[:at] + words[at + 1:]
        if way == 2:
            return words[:at] + part + words[at + 1:]
        return words[:at]

    def test_offers_against_a_slow_search(self):
        source = random.Random(913)
        kinds = [None, None, N2, N6, F, to(*[N2] * 12), to(to(*[N2] * 6), to(*[N2] * 5))]
        for _ in range(25):
            names = [pair for pair in NAMES if source.random() < 0.5]
            kind = source.choice(kinds)
            words = ""
            for _ in range(source.choice([20, 50])):
                found = offers(words, names, kind)
                self.check_equal([sign for sign in SIGNS if is_beginning(words + sign, names, kind)], found)
                self.check_beginning(words, names, kind)
                some = [sign for sign in found if sign not in " \n)"] if source.random() < 0.8 else found
                if words.endswith("(") and source.random() < 0.6:
                    some = [sign for sign in found if sign in "cf"]
                elif words.endswith(" ") and source.random() < 0.5 and "(" in found:
                    some = ["("]
                words += source.choice(some or found)

    def test_offers(self):
        for words, names, kind, expected in (
            ("", [("x", N2)], None, "\n (x"), ("", [("x", N2)], F, "\n ("), ("x", [("x", N2), ("xy", N2), ("xz", N3)], N2, "\n y"),
            ("(", [], None, "\n cdfnt"), ("(", [], F, "\n cfnt"), ("(", [], N2, "\n cdnt"), ("(n", [], F, "e"), ("(n", [], N2, "eu"),
            ("(number ", [], N2, "\n 01"), ("(number 1", [], None, "\n "), ("(number 1 ", [], None, "\n 23456"), ("(number 1 2", [], None, "\n )"),
            ("(draw 1", [], None, "\n )/0123456789"), ("(draw 1 ", [], None, "\n )0"), ("(draw 1 ", [], N2, "\n 0"), ("(draw 2", [], None, "/0123456789"),
            ("(draw 0", [], N1, "\n )"), ("(draw 1/2", [], N1, "\n )0123456789"), ("(draw 1/", [], None, "123456789"), ("(fun x ", [], F, "\n 2"),
            ("(fun x ", [], G, "\n ("), ("(fun x (", [], None, "\n t"), ("(never ", [], G, "\n ("), ("(never (to ", [], None, "\n (123456"),
            ("(draw 1)", [], None, "\n "), ("(fun call", [], None, "abcdefghijklmnopqrstuvwxyz"), ("(fun abcdefgh", [], None, "\n ("),
            ("(fun abcdefgh", [], F, "\n "),
        ):
            self.check_calls(offers, {"text": words, "names": names, "kind": kind}, list(expected))

    def test_completed(self):
        source = random.Random(914)
        for _ in range(60):
            kind = source.choice(KINDS)
            expression = Maker(source).make(kind, 3, dict(NAMES))
            if is_small(expression):
                words = text(expression, NAMES)
                for _ in range(5):
                    at = source.randrange(len(words) + 1)
                    found = self.check_beginning(words[:at], NAMES, kind)
                    self.assertTrue(is_right(found, NAMES, kind))
                    self.check_beginning(words[:at], NAMES, None)


def deep(levels):
    made = number(0, 1)
    for _ in range(levels - 1):
        made = case(number(0, 1), made)
    return made


class Tables(unittest.TestCase, Refusing):
    def check(self, kind, rows, words):
        self.check_calls(table_text, {"kind": kind, "table": rows}, words)
        self.check_calls(read_table, {"kind": kind, "text": words}, rows)

    def test_by_hand(self):
        self.check(F, table(TWICE), "{1 0.0 0.0 | 1 0.0 0.1 + 1 0.1}")
        self.check(N2, number_table(1, 2), "{0 | 1}")
        self.check(N1, never_table(N1), "{0}")
        self.check(N3, ((((), (1, 3)),), (), (((), (22, 7)),)), "{1/3 | 0 | 22/7}")
        self.check(F, own_table(N2), "{1 0.0 | 1 0.1}")
        self.check(to(F, F), own_table(F), "{1 0({1 1.0 | 1 1.1}).0 | 1 0({1 1.0 | 1 1.1}).1}")
        both = to(to(N2, F, N1), N1)
        inner = ((((), ALL),), ())
        other = ((((), HALF),), ())
        rows = (((((0, (inner, other), 0),) * 2, (3, 4)),),)
        self.check(both, rows, "{3/4 0({1 | 0}, {1/2 | 0}).0 0({1 | 0}, {1/2 | 0}).0}")

    def test_numbers_of_many_digits(self):
        top = 10 ** 3999
        self.check(N1, ((((), (top, 1)),),), "{1" + "0" * 3999 + "}")
        self.check(N1, ((((), (top, top + 1)),),), "{1" + "0" * 3999 + "/1" + "0" * 3998 + "1}")

    def test_there_and_back(self):
        source = random.Random(921)
        seen = 0
        for _ in range(200):
            kind = source.choice(KINDS)
            program = Maker(source).make(kind, 3)
            try:
                rows = table(program)
            except TooMany:
                continue
            self.check_equal(rows, read_table(kind, table_text(kind, rows)))
            seen += 1
        self.assertGreater(seen, 150)

    def test_deep_tables(self):
        kind = to(to(F, N1), N1)
        made = ((), ())
        for _ in range(59):
            made = (((((0, (made,), 0),), ALL),), ())
        rows = (((((0, (made,), 0),), ALL),),)
        self.check_equal(rows, read_table(kind, table_text(kind, rows)))

    def test_texts_of_no_table(self):
        for words in (
            "", "{", "}", "{}", "{0", "0}", "{0 | 0", "{0|0}", "{0 |0}", "{0 | 0} ", " {0 | 0}", "{0 | 0}\n", "{0 | 0}}", "{0 | 0 | 0}", "{0}", "{1 | 00}",
            "{01 | 0}", "{2/4 | 0}", "{1/1 | 0}", "{0/1 | 0}", "{1/0 | 0}", "{-1 | 0}", "{1/2/3 | 0}", "{1 0.0 | 0 }", "{1 0.0  0.0 | 0}", "{1 0.00 | 0}",
            "{1 00.0 | 0}", "{1 0.2 | 0}", "{1 1.0 | 0}", "{1 0 | 0}", "{1 0. | 0}", "{1 .0 | 0}", "{1 0().0 | 0}", "{1 0({0 | 0}).0 | 0}", "{1 0.1 0.0 | 0}",
            "{1 0.1 + 1 0.0 | 0}", "{1 0.0 + 1 0.0 | 0}", "{1 0.0 + 2 0.0 | 0}", "{1 0.0 + | 0}", "{+ 1 | 0}", "{1 + 0 | 0}", "{0 + 1 | 0}", "{1 0.0+1 0.1 | 0}",
            "{1 0.0 | 0} {0 | 0}", "{a | 0}", "{1 0.a | 0}", "{1/ | 0}", "{/2 | 0}", "{ | }", "{1 0.0 +  1 0.1 | 0}", "{1 0.0 | 1 0.0 + 1}", "{\u0661 | 0}",
            "{1 0.0 0.1 0.0 | 0}", "{" * 500, "{1 0(" * 500, "((", "{1 0.0 | 0", "{1 0.0 | 0]", "[0 | 0]", "{1 " + "0" * 5000 + ".0 | 0}", "{" + "1" * 5000 + " | 0}",
        ):
            self.refused(BadTable, read_table, F, words)
        for words in (
            "{1 0({1 1.0 | 1 1.1}).0 | 1 0({1 1.0 | 1 1.1}).1 }", "{1 0({1 1.0 | 1 1.1}.0 | 0}", "{1 0({1 1.0 | 1 1.1},).0 | 0}", "{1 0({1 1.0 | 1 1.1}, {0 | 0}).0 | 0}",
            "{1 0({1 1.0 | 1 2.1}).0 | 0}", "{1 0({1 1.0|1 1.1}).0 | 0}", "{1 0 ({1 1.0 | 1 1.1}).0 | 0}", "{1 0.0 | 0}", "{1 0({1 1.0 | 1 1.1}) | 0}", "{1 0({1}).0 | 0}",
        ):
            self.refused(BadTable, read_table, to(F, F), words)

    def test_mutations(self):
        source = random.Random(922)
        kinds = [F, G, to(F, F), to(N2, N3, N2), to(to(N2, F), N2)]
        changed = 0
        for _ in range(150):
            kind = source.choice(kinds)
            rows = table(Maker(source).make(kind, 3))
            words = table_text(kind, rows)
            at = source.randrange(len(words))
            sign = source.choice("{}()|+ .,/0123456789a")
            made = source.choice([words[:at] + sign + words[at:], words[:at] + words[at + 1:], words[:at] + sign + words[at + 1:], words[:at]])
            try:
                found = read_table(kind, made)
            except BadTable:
                continue
            self.assertEqual(made, table_text(kind, found))
            changed += made != words
        self.assertGreater(changed, 5)

    def test_refusals(self):
        tables = [value for kind, value in wrong_tables() if kind == F]
        self.check_refusals(table_text, {"kind": F, "table": table(TWICE)}, [("kind", KINDS_WRONG, BadKind), ("table", tables, BadTable)])
        for kind, value in wrong_tables():
            self.refused(BadTable, table_text, kind, value)
        self.check_refusals(read_table, {"kind": F, "text": "{0 | 1}"}, [
            ("kind", KINDS_WRONG, BadKind), ("text", STRANGE + [b"{0 | 1}", ["{0 | 1}"]], BadTable),
        ])


if __name__ == "__main__":
    unittest.main()
