"""books.py: points 93, 94 and 95."""

import random
import unittest

from chancepoints.books import Book
from chancepoints.errors import (
    BadExpression, BadKind, BadName, ChanceError, NoName, Taken, TooMany, Used,
)
from chancepoints.meaning import table
from chancepoints.tables import own_table
from chancepoints.terms import is_program, kind_of
from tests.helping import Refusing, STRANGE
from tests.oracle import (
    COIN, Maker, call, case, draw, fun, is_small, measured, name, never, nodes, num, number, table_of, take, to,
)
from tests.shapes import WRONG_NAMES, X, wrong
from tests.test_meaning import JUST, OVER, used, used_times

N1, N2, N3 = num(1), num(2), num(3)
F = to(N2, N2)
G = to(F, N2)
A, B, C, D, U = [name(x) for x in "abcdu"]
NOT = fun("x", N2, case(X, number(1, 2), number(0, 2)))
ZERO, ONE = number(0, 2), number(1, 2)
WRONG = STRANGE + wrong()
NO_NAMES = STRANGE + [value for value in WRONG_NAMES if not isinstance(value, (list, dict))] + [["a"], {"a": 1}, ("a",)]


def book_of(*pairs):
    made = Book()
    for word, expression in pairs:
        made.define(word, expression)
    return made


def told(book):
    return [(word, book.kind(word), book.expression(word), book.table(word)) for word in book.names()]


class BookCase(unittest.TestCase, Refusing):
    def keeps(self, book, error, deed, *given, **named):
        """The deed is refused, and nothing of the book is changed."""
        before = told(book)
        found = self.refused(error, deed, *given, **named)
        self.check_equal(before, told(book))
        return found

    def check_tables(self, book):
        for word in book.names():
            try:
                program = book.whole(word)
            except BadExpression:
                continue
            self.assertTrue(is_program(program))
            self.check_equal(table(program), book.table(word))
            self.check_equal(kind_of(program), book.kind(word))


class Define(BookCase):
    def test_definitions(self):
        book = Book()
        self.assertEqual(0, len(book))
        self.assertIsNone(book.define("u", COIN))
        self.assertIsNone(book.define(name="f", expression=NOT))
        self.assertIsNone(book.define("d", call(name("f"), U)))
        self.assertEqual(3, len(book))
        self.assertEqual(["u", "f", "d"], book.names())
        self.assertEqual([N2, F, N2], [book.kind(word) for word in book.names()])
        self.assertEqual([COIN, NOT, call(name("f"), U)], [book.expression(name=word) for word in book.names()])
        self.check_tables(book)
        self.check_equal(table(NOT), book.table(name="f"))

    def test_a_free_name_is_exchanged_within_bindings(self):
        book = book_of(("a", draw((1, 3), (1, 3))), ("f", fun("x", N2, case(X, A, call(fun("y", N2, name("y")), A)))))
        self.check_tables(book)
        book.define("g", fun("k", F, call(name("k"), call(name("f"), A))))
        self.check_tables(book)
        book.define("h", fun("x", N2, fun("y", F, call(name("y"), call(name("f"), X)))))
        self.check_tables(book)
        book.define("i", take("z", A, call(name("f"), name("z"))))
        self.check_tables(book)

    def test_functions_of_functions_are_used_within_functions(self):
        twice = fun("f", F, fun("x", N2, call(name("f"), call(name("f"), X))))
        book = book_of(("twice", twice), ("flip", NOT), ("both", call(name("twice"), name("flip"))))
        book.define("inner", fun("x", N2, fun("g", G, call(name("g"), fun("y", N2, call(name("both"), case(X, X, name("y"))))))))
        self.check_tables(book)
        self.check_equal(own_table(N2)[0][0][1], book.table("both")[0][0][1])

    def test_names_that_are_bound_in_several(self):
        book = book_of(("a", fun("x", N2, X)), ("b", fun("x", N2, call(A, X))))
        self.check_tables(book)

    def test_bad_name_then_taken_then_the_expression(self):
        for value in NO_NAMES:
            book = book_of(("u", COIN))
            self.keeps(book, BadName, book.define, value, COIN)
            self.keeps(book, BadName, book.define, value, None)
        book = book_of(("u", COIN), ("f", fun("x", N2, take("y", X, name("y")))))
        for word in ("u", "f", "x", "y"):
            self.assertEqual(word, self.keeps(book, Taken, book.define, word, COIN).name)
            self.assertEqual(word, self.keeps(book, Taken, book.define, name=word, expression=None).name)
        for value in WRONG:
            self.keeps(book, BadExpression, book.define, "new", value)
            self.keeps(book, BadExpression, book.define, name="new", expression=value)

    def test_bound_names_that_are_taken(self):
        book = book_of(("u", COIN), ("c", COIN), ("z", COIN))
        for inner, least in (("u", "u"), ("a", "a"), ("z", "z")):
            self.assertEqual(least, self.keeps(book, Taken, book.define, "a", fun(inner, N2, COIN)).name)
        several = fun("z", N2, fun("u", N2, fun("b", N2, take("c", COIN, name("free")))))
        self.assertEqual("c", self.keeps(book, Taken, book.define, "a", several).name)
        self.assertEqual("b", self.keeps(book, Taken, book.define, "b", several).name)
        # A bound name is told ahead of free ones, and of the kind.
        self.assertEqual("u", self.keeps(book, Taken, book.define, "a", call(fun("u", N2, name("free")), COIN)).name)

    def test_free_names_of_no_definition(self):
        book = book_of(("u", COIN), ("m", COIN))
        for free, least in ((["z", "b", "u"], "b"), (["new"], "new"), (["u", "zz"], "zz"), (["new", "a"], "a")):
            expression = case(number(0, 1), COIN)
            for word in free:
                expression = call(expression, name(word))
            self.assertEqual(least, self.keeps(book, NoName, book.define, "new", expression).name)

    def test_no_kind(self):
        book = book_of(("u", COIN), ("f", NOT))
        for expression in (call(U, U), call(name("f"), name("f")), case(name("f"), U, U), case(U, U), take("x", name("f"), X)):
            self.keeps(book, BadKind, book.define, "new", expression)
        self.assertIsNone(book.define("new", call(name("f"), U)))

    def test_too_large_tables(self):
        book = book_of(("just", JUST))
        self.assertEqual(4000, self.keeps(book, TooMany, book.define, "new", OVER).most)
        more = fun("y", N1, call(name("just"), call(name("just"), name("y"))))
        self.assertEqual(4000, self.keeps(book, TooMany, book.define, "new", more).most)
        self.assertEqual(["just"], book.names())
        self.assertIsNone(book.define("new", fun("y", N1, call(name("just"), name("y")))))
        # Inner expressions count, too, though what comes is small.
        inner = call(fun("f", to(N1, N1), number(0, 1)), fun("y", N1, call(name("just"), call(name("just"), name("y")))))
        self.keeps(book, TooMany, book.define, "other", inner)


class Change(BookCase):
    def check(self, book, word, expression, worked, changed):
        before = {part: book.table(part) for part in book.names()}
        names = book.names()
        found = book.change(word, expression)
        self.check_equal((tuple(worked), tuple(changed)), found)
        self.assertEqual(names, book.names())
        self.assertEqual(expression, book.expression(word))
        self.check_tables(book)
        for part in names:
            self.assertEqual(part in changed, before[part] != book.table(part))

    def chain(self):
        return book_of(
            ("a", COIN), ("b", ONE), ("c", case(A, B, ZERO)), ("d", case(B, ZERO, ONE)), ("e", take("x", C, X)),
            ("f", fun("y", N2, case(name("e"), name("y"), D))), ("g", call(name("f"), A)),
        )

    def test_chains_of_uses(self):
        self.check(self.chain(), "a", ZERO, ["a", "c", "e", "f", "g"], ["a", "c", "e", "f", "g"])
        self.check(self.chain(), "d", COIN, ["d", "f", "g"], ["d", "f", "g"])
        self.check(self.chain(), "g", number(0, 2), ["g"], ["g"])
        self.check(self.chain(), "f", fun("z", N2, name("z")), ["f", "g"], ["f", "g"])

    def test_the_same_table_again(self):
        self.check(self.chain(), "a", COIN, ["a"], [])
        self.check(self.chain(), "a", case(COIN, COIN, COIN), ["a"], [])
        self.check(self.chain(), "b", case(number(0, 1), ONE), ["b"], [])
        # c comes out the same, so what uses only c is not worked out.
        book = book_of(("a", ZERO), ("b", A), ("c", case(A, COIN, COIN)), ("d", C), ("e", case(C, B, A)))
        self.check(book, "a", ONE, ["a", "b", "c", "e"], ["a", "b", "e"])

    def test_what_does_not_use_it_is_not_worked_out(self):
        book = book_of(("a", ZERO), ("b", ONE), ("c", B))
        self.check(book, "a", ONE, ["a"], ["a"])
        self.check(book, "b", ZERO, ["b", "c"], ["b", "c"])

    def test_by_name_and_twice(self):
        book = self.chain()
        self.assertEqual((("d", "f", "g"), ("d", "f", "g")), book.change(name="d", expression=ZERO))
        self.assertEqual((("d",), ()), book.change(name="d", expression=ZERO))

    def test_uses_are_those_of_the_new_expression(self):
        book = self.chain()
        self.check(book, "c", B, ["c", "e", "f", "g"], ["c", "e", "f", "g"])
        self.assertEqual(["b"], book.uses("c"))
        # f comes to d now, whatever it is handed: g is worked out, and comes out the same.
        self.check(book, "a", ZERO, ["a", "g"], ["a"])

    def test_errors_in_order(self):
        book = self.chain()
        for value in STRANGE + ["x", "y", "zz", "A", "", ["a"], ("a",), {"a": 1}, b"a"]:
            error = self.keeps(book, NoName, book.change, value, None)
            self.assertIs(value, error.name)
        for value in WRONG:
            self.keeps(book, BadExpression, book.change, "a", value)
        for least, expression in (
            ("c", call(fun("g", N2, name("q")), fun("c", N2, COIN))), ("d", fun("d", N2, COIN)), ("a", take("a", COIN, COIN)),
        ):
            self.assertEqual(least, self.keeps(book, Taken, book.change, "d", expression).name)
        for word, least, expression in (
            ("c", "e", case(name("e"), name("g"), A)), ("c", "c", C), ("c", "d", D), ("a", "b", B), ("c", "q", case(name("q"), A, B)),
            ("g", "z", case(name("z"), name("zz"), A)),
        ):
            self.assertEqual(least, self.keeps(book, NoName, book.change, word, expression).name)
        for expression in (number(0, 3), NOT, case(A, B), call(A, B), never(F)):
            self.keeps(book, BadKind, book.change, "c", expression)

    def test_a_binding_of_its_own_name(self):
        book = book_of(("a", fun("x", N2, X)))
        self.assertEqual("a", self.keeps(book, Taken, book.change, "a", fun("a", N2, A)).name)
        self.check(book, "a", fun("x", N2, COIN), ["a"], ["a"])

    def test_too_large_tables_change_nothing(self):
        book = book_of(("a", JUST), ("b", fun("y", N1, call(A, name("y")))), ("c", fun("y", N1, call(B, name("y")))), ("d", COIN))
        self.assertEqual(4000, self.keeps(book, TooMany, book.change, "a", OVER).most)
        small = fun("x", N1, X)
        book = book_of(("a", small), ("b", fun("y", N1, call(A, call(A, name("y"))))), ("c", fun("y", N1, call(B, name("y")))))
        self.assertEqual(4000, self.keeps(book, TooMany, book.change, "a", JUST).most)
        self.check_equal((("a", "b", "c"), ("a", "b", "c")), book.change("a", fun("x", N1, used("x", 40))))
        book = book_of(("a", small), ("d", COIN), ("b", fun("y", N1, call(A, call(A, name("y"))))))
        self.keeps(book, TooMany, book.change, "a", JUST)
        # What is not worked out raises nothing.
        self.assertEqual((("d",), ("d",)), book.change("d", ZERO))


class RenameAndDrop(BookCase):
    def test_rename(self):
        book = book_of(("a", COIN), ("b", fun("x", N2, case(X, A, take("y", A, name("y"))))), ("c", call(B, A)), ("d", ZERO))
        tables = [book.table(word) for word in book.names()]
        self.assertIsNone(book.rename("a", "new"))
        self.assertEqual(["new", "b", "c", "d"], book.names())
        new = name("new")
        self.assertEqual(COIN, book.expression("new"))
        self.assertEqual(fun("x", N2, case(X, new, take("y", new, name("y")))), book.expression("b"))
        self.assertEqual(call(B, new), book.expression("c"))
        self.assertEqual(tables, [book.table(word) for word in book.names()])
        self.assertEqual(["new"], book.uses("b"))
        self.assertIsNone(book.rename(old="b", new="a"))
        self.assertEqual(["new", "a", "c", "d"], book.names())
        self.assertEqual(call(A, new), book.expression("c"))
        self.check_tables(book)
        book.rename("d", "zz")
        self.assertEqual(["new", "a", "c", "zz"], book.names())

    def test_rename_refused(self):
        book = book_of(("a", COIN), ("b", fun("x", N2, case(X, A, A))))
        for value in STRANGE + ["x", "q", ["a"], ("a",), {"a": 1}]:
            self.keeps(book, NoName, book.rename, value, None)
        for value in NO_NAMES:
            self.keeps(book, BadName, book.rename, "a", value)
            self.keeps(book, BadName, book.rename, old="a", new=value)
        for word in "abx":
            self.assertEqual(word, self.keeps(book, Taken, book.rename, "a", word).name)

    def test_drop(self):
        book = book_of(("a", COIN), ("b", A), ("c", case(A, B, B)), ("d", A))
        self.assertEqual("b", self.keeps(book, Used, book.drop, "a").name)
        self.assertEqual("c", self.keeps(book, Used, book.drop, name="b").name)
        self.assertIsNone(book.drop("c"))
        self.assertEqual(["a", "b", "d"], book.names())
        self.assertIsNone(book.drop(name="b"))
        self.assertEqual("d", self.keeps(book, Used, book.drop, "a").name)
        book.drop("d")
        book.drop("a")
        self.assertEqual((0, []), (len(book), book.names()))
        book.define("a", COIN)

    def test_no_name(self):
        book = book_of(("a", COIN), ("b", fun("x", N2, A)))
        for value in STRANGE + ["x", "q", "", "A", ["a"], ("a",), {"a": 1}, b"a", Book()]:
            for deed in (book.drop, book.kind, book.expression, book.table, book.uses, book.users, book.whole):
                error = self.keeps(book, NoName, deed, value)
                self.assertIs(value, error.name)
                self.refused(NoName, deed, name=value)


class Asking(BookCase):
    def test_uses_and_users_in_the_order_of_the_book(self):
        book = book_of(("z", COIN), ("a", COIN), ("m", case(A, name("z"), A)), ("b", case(name("m"), A, name("z"))), ("c", ZERO))
        self.assertEqual([[], [], ["z", "a"], ["z", "a", "m"], []], [book.uses(word) for word in book.names()])
        self.assertEqual([["m", "b"], ["m", "b"], ["b"], [], []], [book.users(word) for word in book.names()])
        self.assertEqual(["z", "a"], book.uses(name="m"))
        self.assertEqual(["b"], book.users(name="m"))

    def test_what_is_returned_may_be_changed(self):
        book = book_of(("a", COIN), ("b", A))
        for found in (book.names(), book.uses("b"), book.users("a"), book.lots(), book.lots()[0]):
            self.assertIsInstance(found, list)
            found.append("x")
        self.assertEqual((["a", "b"], ["a"], ["b"], [["a", "b"]]), (book.names(), book.uses("b"), book.users("a"), book.lots()))

    def test_whole(self):
        book = book_of(("a", COIN), ("b", fun("x", N2, case(X, A, A))), ("c", call(B, A)))
        b = fun("x", N2, case(X, COIN, COIN))
        self.assertEqual([COIN, b, call(b, COIN)], [book.whole(word) for word in book.names()])
        self.assertEqual(call(b, COIN), book.whole(name="c"))

    def test_whole_too_large(self):
        book = book_of(("a", take("x", COIN, X)))
        for before, word in zip("abcdefghijk", "bcdefghijkl"):
            book.define(word, case(name(before), name(before), ONE))
        many = [3]
        while len(many) < 12:
            many.append(2 * many[-1] + 2)
        for word, size in zip("abcdefghijkl", many):
            if size <= 300:
                self.assertEqual(size, len(nodes(book.whole(word))))
            else:
                self.refused(BadExpression, book.whole, word)
        just = book_of(("a", never(F)), ("b", balanced(300, A)))
        self.assertEqual((300, 300), (measured(just.expression("b"))[0], measured(just.whole("b"))[0]))
        just.change("a", fun("x", N2, X))
        self.refused(BadExpression, just.whole, "b")

    def test_whole_too_deep(self):
        deep = COIN
        for _ in range(40):
            deep = case(number(0, 1), deep)
        book = book_of(("a", deep), ("b", A))
        for word in "cdefghijk":
            book.define(word, case(number(0, 1), name(chr(ord(word) - 1))))
        self.assertEqual(50, measured(book.whole("k"))[1])
        book.define("l", case(number(0, 1), name("k")))
        self.refused(BadExpression, book.whole, "l")
        book.define("m", fun("x", N2, ZERO))
        self.assertEqual(2, measured(book.whole("m"))[1])

    def test_whole_of_what_grows_beyond_all_bounds(self):
        book = book_of(("a", COIN))
        names = ["b" + x + y for x in "abcde" for y in "abcdefghij"]
        for before, word in zip(["a"] + names, names):
            book.define(word, case(name(before), name(before), name(before)))
        self.refused(BadExpression, book.whole, names[-1])
        self.assertEqual(50, len(names))

    def test_equality(self):
        one = book_of(("a", COIN), ("b", A))
        self.assertTrue(one == book_of(("a", COIN), ("b", A)))
        self.assertFalse(one != book_of(("a", COIN), ("b", A)))
        self.assertTrue(Book() == Book())
        others = [
            Book(), book_of(("a", COIN)), book_of(("a", COIN), ("b", COIN)), book_of(("a", COIN), ("c", A)),
            book_of(("a", COIN), ("b", A), ("c", A)), book_of(("b", COIN), ("a", B)), book_of(("a", ZERO), ("b", A)),
        ]
        for other in others:
            self.assertFalse(one == other)
            self.assertTrue(one != other)
            self.assertTrue(other != one)
        turned = book_of(("a", COIN), ("b", COIN))
        self.assertFalse(turned == book_of(("b", COIN), ("a", COIN)))
        for value in [value for value in STRANGE if not isinstance(value, Book)] + [told(one), one.names(), (("a", COIN), ("b", A)), {"a": COIN, "b": A}]:
            self.assertFalse(one == value)
            self.assertTrue(one != value)
            self.assertFalse(value == one)
            self.assertFalse(Book() == value)

    def test_not_iterated_over(self):
        book = book_of(("a", COIN))
        for deed in (iter, list, tuple, sorted, lambda value: "a" in value, lambda value: value["a"], lambda value: value[0]):
            self.assertRaises(TypeError, deed, book)

    def test_copy(self):
        one = book_of(("a", COIN), ("b", A))
        other = one.copy()
        self.assertIsNot(one, other)
        self.assertIs(Book, type(other))
        self.assertTrue(one == other)
        self.check_equal(told(one), told(other))
        other.define("c", B)
        self.assertEqual(["a", "b"], one.names())
        one.change("a", ZERO)
        self.assertEqual(COIN, other.expression("a"))
        self.assertEqual(table(COIN), other.table("b"))
        other.rename("a", "z")
        other.drop("c")
        self.assertEqual(["a", "b"], one.names())
        self.assertEqual(A, one.expression("b"))
        one.drop("b")
        one.drop("a")
        self.assertEqual(["z", "b"], other.names())

    def test_methods_stand_in_the_class(self):
        words = "define change rename drop names kind expression table uses users whole listens lots shared copy".split()
        for word in words + ["__init__", "__eq__", "__len__"]:
            self.assertIn(word, vars(Book))


class Listens(BookCase):
    def check(self, book, word, other, expected):
        self.assertIs(expected, book.listens(word, other))
        self.assertIs(expected, book.listens(name=word, other=other))

    def test_the_example(self):
        book = book_of(("u", ZERO), ("f", fun("x", N2, ONE)), ("d", call(name("f"), U)))
        self.check(book, "d", "u", False)
        self.check(book, "d", "f", True)
        self.assertEqual(["u", "f"], sorted(book.uses("d"), reverse=True))

    def test_what_stands_between(self):
        book = book_of(
            ("a", COIN), ("f", fun("x", N2, X)), ("b", call(name("f"), A)), ("c", fun("x", N2, case(X, B, ZERO))), ("d", C),
            ("e", call(C, ONE)), ("g", call(C, ZERO)), ("k", case(COIN, A, number(1, 2))), ("l", ZERO),
        )
        for word, other, expected in (
            ("b", "a", True), ("c", "a", True), ("d", "a", True), ("e", "a", False), ("g", "a", True), ("k", "a", True),
            ("l", "a", False), ("f", "a", False), ("b", "f", True), ("c", "b", True), ("e", "b", False), ("e", "c", True),
            ("g", "b", True), ("l", "k", False), ("k", "f", False), ("g", "f", True), ("e", "f", False), ("d", "c", True),
        ):
            self.check(book, word, other, expected)

    def test_at_any_depth(self):
        # The call of a stands in a table that is handed to g.
        book = book_of(("a", COIN), ("b", fun("g", G, call(name("g"), fun("y", N2, case(name("y"), A, ONE))))), ("c", fun("x", N2, X)))
        self.check(book, "b", "a", True)
        self.check(book, "c", "a", False)
        book.define("d", call(B, fun("k", F, ZERO)))
        self.check(book, "d", "a", False)
        self.check(book, "d", "b", True)
        book.define("e", call(B, fun("k", F, call(name("k"), ZERO))))
        self.check(book, "e", "a", True)
        book.define("h", call(B, fun("k", F, call(name("k"), ONE))))
        self.check(book, "h", "a", False)

    def test_functions_that_are_handed_functions(self):
        book = book_of(("f", fun("x", N2, X)), ("t", fun("k", F, fun("x", N2, call(name("k"), call(name("k"), X))))))
        book.define("u", call(name("t"), name("f")))
        book.define("v", fun("y", N2, call(name("u"), name("y"))))
        for word, other in (("u", "t"), ("u", "f"), ("v", "u"), ("v", "t"), ("v", "f")):
            self.check(book, word, other, True)
        book.define("w", call(fun("k", F, fun("y", N2, name("y"))), name("u")))
        for other in "ftuv":
            self.check(book, "w", other, False)

    def test_no_definition_ahead(self):
        book = book_of(("a", COIN), ("b", A), ("c", fun("x", N2, B)))
        for value in STRANGE + ["x", "q", ["a"], ("a",), {"a": 1}]:
            self.assertIs(value, self.keeps(book, NoName, book.listens, value, None).name)
            self.assertIs(value, self.keeps(book, NoName, book.listens, "b", value).name)
            self.refused(NoName, book.listens, name="b", other=value)
        for word, other in (("b", "b"), ("a", "a"), ("a", "b"), ("b", "c"), ("c", "c"), ("a", "c")):
            self.assertEqual(other, self.keeps(book, NoName, book.listens, word, other).name)

    def test_too_large_tables(self):
        # Each call of a thing of order 1 tells the table of what it is handed.
        often = used_times(10, 7)
        book = book_of(("a", fun("x", N1, number(0, 1))), ("o", often), ("b", fun("x", N1, call(name("o"), call(A, call(name("o"), X))))), ("c", ZERO))
        self.assertEqual(4000, self.keeps(book, TooMany, book.listens, "b", "a").most)
        self.check(book, "b", "o", True)
        self.check(book, "c", "a", False)
        self.check(book, "c", "b", False)
        book.define("d", fun("x", N1, call(B, X)))
        self.keeps(book, TooMany, book.listens, "d", "a")
        self.check(book, "d", "b", True)
        book.define("e", call(fun("f", to(N1, N1), ZERO), B))
        self.keeps(book, TooMany, book.listens, "e", "a")

    def test_as_changes_tell(self):
        source = random.Random(941)
        seen = {True: 0, False: 0}
        for _ in range(25):
            book = random_book(source, 5)
            words = book.names()
            for at, other in enumerate(words):
                for word in words[at + 1:]:
                    try:
                        found = book.listens(word, other)
                    except TooMany:
                        continue
                    changes = self.some_change(source, book, other, word)
                    self.assertTrue(found or not changes, (word, other))
                    whole = self.whole_but(book, word, other)
                    if is_small(whole):
                        rows = table_of(fun(other, book.kind(other), whole), to(book.kind(other), book.kind(word)))
                        self.assertIs(has_calls(rows), found)
                        seen[found] += 1
        self.assertGreater(min(seen.values()), 20)

    def some_change(self, source, book, other, word):
        """Whether the table of word becomes another one by one of some changes of other."""
        for _ in range(6):
            made = book.copy()
            try:
                _, changed = made.change(other, Maker(source, letters="xyz").make(made.kind(other), 2))
            except TooMany:
                continue
            if word in changed:
                return True
        return False

    def whole_but(self, book, word, other):
        """The expression of word in which other is the only name of a definition."""
        made = book.expression(word)
        for part in reversed(book.names()):
            if part != other:
                made = exchanged(made, part, book.expression(part))
        return made


def exchanged(expression, word, part):
    """The expression with part for each name of a definition, which is bound nowhere."""
    if expression == name(word):
        return part
    if expression[0] == "fun":
        return expression[:3] + (exchanged(expression[3], word, part),)
    if expression[0] == "call":
        return call(*[exchanged(inner, word, part) for inner in expression[1:]])
    if expression[0] == "case":
        return case(exchanged(expression[1], word, part), *[exchanged(inner, word, part) for inner in expression[2]])
    if expression[0] == "take":
        return expression[:2] + tuple(exchanged(inner, word, part) for inner in expression[2:])
    return expression


def has_calls(rows):
    """Whether a call of the thing 0 stands in a table, at any depth."""
    calls = [call_ for row in rows for point, _ in row for call_ in point]
    return any(v == 0 or any(has_calls(part) for part in inner) for v, inner, _ in calls)


def random_book(source, many):
    """A book of so many definitions of small random expressions that use one another."""
    book = Book()
    kinds = [N2, N2, F, F, G, N3, to(N2, F)]
    while len(book) < many:
        env = {word: book.kind(word) for word in book.names()}
        expression = Maker(source, kinds=[N2, F], letters="xyz", busy=True).make(source.choice(kinds), 3, env)
        if is_small(expression):
            try:
                book.define("abcdefghij"[len(book)], expression)
            except TooMany:
                pass
    return book


class Lots(BookCase):
    def alike_book(self):
        return book_of(
            ("z", COIN), ("f", fun("x", N2, X)), ("a", ZERO), ("g", fun("y", N2, name("y"))), ("b", case(COIN, ZERO, ONE)),
            ("c", number(0, 3)), ("d", case(A, ZERO, B)), ("e", call(name("g"), B)), ("h", fun("x", F, call(X, case(B, A, D)))),
            ("i", fun("y", F, call(name("y"), A))), ("n", never(F)), ("o", fun("x", N2, never(N2))), ("p", fun("x", N3, never(N2))),
        )

    def test_lots(self):
        expected = [["z", "b", "e"], ["f", "g"], ["a", "d"], ["c"], ["h", "i"], ["n", "o"], ["p"]]
        self.assertEqual(expected, self.alike_book().lots())
        self.assertEqual([], Book().lots())

    def test_kinds_are_looked_at_beside_tables(self):
        book = book_of(("n", never(N2)), ("f", never(F)), ("g", never(to(N3, N2))), ("t", never(to(N1, N3))), ("m", never(F)))
        self.assertEqual([["n"], ["f", "m"], ["g"], ["t"]], book.lots())

    def test_shared(self):
        book = self.alike_book()
        before = told(book)
        made = book.shared()
        self.check_equal(before, told(book))
        self.assertIs(Book, type(made))
        self.assertIsNot(book, made)
        self.assertEqual(["z", "f", "a", "c", "h", "n", "p"], made.names())
        self.assertEqual(fun("x", F, call(X, case(name("z"), A, A))), made.expression("h"))
        for word in made.names():
            self.check_equal(book.table(word), made.table(word))
            self.assertEqual(book.kind(word), made.kind(word))
        self.check_tables(made)
        self.assertTrue(made.shared() == made)
        self.assertEqual([[word] for word in made.names()], made.lots())
        made.define("b", COIN)
        self.assertEqual(before, told(book))
        self.assertEqual(Book(), Book().shared())

    def test_random_books(self):
        source = random.Random(951)
        for _ in range(40):
            book = random_book(source, 8)
            lots = book.lots()
            self.assertEqual(sorted(book.names()), sorted(word for lot in lots for word in lot))
            for lot in lots:
                self.assertEqual(sorted(lot, key=book.names().index), lot)
                for word in book.names():
                    alike = (book.kind(word), book.table(word)) == (book.kind(lot[0]), book.table(lot[0]))
                    self.assertIs(alike, word in lot)
            self.assertEqual(sorted(lots, key=lambda lot: book.names().index(lot[0])), lots)
            made = book.shared()
            self.assertEqual([lot[0] for lot in lots], made.names())
            self.assertTrue(made == made.shared())
            self.check_tables(made)
            for word in made.names():
                self.assertEqual(book.table(word), made.table(word))


class AnyDeeds(BookCase):
    def test_each_definition_has_the_table_of_its_whole_program(self):
        source = random.Random(931)
        done = 0
        for _ in range(30):
            book = random_book(source, 6)
            for _ in range(12):
                done += self.deed(source, book)
                self.check_tables(book)
        self.assertGreater(done, 150)

    def deed(self, source, book):
        before = told(book)
        try:
            self.do(source, book)
            return 1
        except ChanceError:
            self.check_equal(before, told(book))
            return 0

    def do(self, source, book):
        word = source.choice("abcdefghij")
        choice = source.randrange(5)
        if choice == 0:
            book.define(word, Maker(source, letters="xyz").make(N2, 2, {part: book.kind(part) for part in book.names()}))
        elif choice == 1:
            book.rename(word, source.choice("abcdefghijx"))
        elif choice == 2:
            book.drop(word)
        elif word in book.names():
            tables = {part: book.table(part) for part in book.names()}
            ahead = book.names()[:book.names().index(word)]
            env = {part: book.kind(part) for part in ahead}
            worked, changed = book.change(word, Maker(source, letters="xyz").make(book.kind(word), 2, env))
            expected = [word]
            for part in book.names()[len(ahead) + 1:]:
                if any(other in changed for other in book.uses(part)):
                    expected.append(part)
            self.assertEqual(tuple(expected), worked)
            self.assertEqual(tuple(part for part in book.names() if book.table(part) != tables[part]), changed)


def balanced(many, end=number(0, 1)):
    """An expression of few levels with so many nodes (not 2), which comes to what end does."""
    if many == 1:
        return end
    if many == 3:
        return case(number(0, 1), end)
    if many == 4:
        return call(fun("y", N1, end), number(0, 1))
    left = (many - 1) // 2
    left -= 1 - left % 2
    return case(balanced(left), balanced(many - 1 - left, end))


if __name__ == "__main__":
    unittest.main()
