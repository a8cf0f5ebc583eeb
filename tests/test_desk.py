"""desk.py: point 97."""

import random
import unittest

from chancepoints.books import Book
from chancepoints.booktexts import book_text, read_book
from chancepoints.desk import Desk
from chancepoints.errors import BadLine, BadText
from chancepoints.texts import table_text, text
from tests.helping import Refusing, STRANGE
from tests.oracle import COIN, call, name, number
from tests.test_booktexts import BOOK, LINES, WRONG_LINES, text_of_kind
from tests.test_books import book_of, random_book
from tests.test_meaning import JUST, OVER

WORDS = "".join(LINES)
TOO_LARGE = f"(fun u 1 (call {text(OVER)} u))"


class DeskCase(unittest.TestCase, Refusing):
    def check(self, desk, line, expected):
        found = desk.say(line)
        self.check_equal(expected, found)
        found.append("x")

    def keeps(self, desk, line, expected):
        """The line is told this, and the book stays."""
        before = book_text(desk.book)
        self.check(desk, line, expected)
        self.assertEqual(before, book_text(desk.book))
        self.check(desk, line, expected)


class Making(DeskCase):
    def test_the_book_of_a_text(self):
        self.assertTrue(Desk().book == Book())
        self.assertTrue(Desk("").book == Book())
        self.assertTrue(Desk(WORDS).book == book_of(*BOOK))
        self.assertTrue(Desk(text=WORDS).book == read_book(WORDS))
        self.assertIs(Book, type(Desk().book))

    def test_the_errors_of_read_book(self):
        for value in STRANGE + [b"", LINES, Book()]:
            if not isinstance(value, str):
                self.assertIsNone(self.refused(BadText, Desk, value).at)
                self.assertIsNone(self.refused(BadText, Desk, text=value).at)
        for at, words in ((1, "x"), (3, "".join(LINES[:2]) + "\n"), (7, WORDS + "x"), (1, "\n"), (2, LINES[0] * 2)):
            self.assertEqual(at, self.refused(BadText, Desk, words).at)

    def test_equal_to_nothing_else_and_not_iterated_over(self):
        desk = Desk(WORDS)
        for value in STRANGE + [Desk(WORDS).book, WORDS]:
            self.assertFalse(desk == value)
            self.assertTrue(desk != value)
        self.assertTrue(desk == desk)
        for deed in (iter, list, len):
            self.assertRaises(TypeError, deed, desk)
        self.assertIn("say", vars(Desk))
        self.assertIn("__init__", vars(Desk))

    def test_bad_lines(self):
        desk = Desk(WORDS)
        for value in [value for value in STRANGE if not isinstance(value, str)] + [b"book", ["book"], "book\n", "\n", "a\nb", "\nbook"]:
            self.refused(BadLine, desk.say, value)
            self.refused(BadLine, desk.say, line=value)
        self.assertEqual(["yes"], desk.say(line="listens b a"))


class Let(DeskCase):
    def test_new_definitions(self):
        desk = Desk()
        for line, (word, expression) in zip(LINES, BOOK):
            words = line.partition(" = ")[2][:-1]
            self.check(desk, f"let {word} = {words}", [line.partition(" : ")[2].partition(" = ")[0]])
            self.assertEqual(expression, desk.book.expression(word))
        self.assertTrue(desk.book == book_of(*BOOK))

    def test_texts_need_not_be_the_very_ones(self):
        desk = Desk()
        self.check(desk, "let a =   ( draw  1/2 1/2 ) ", ["2"])
        self.assertEqual(COIN, desk.book.expression("a"))

    def test_changes(self):
        desk = Desk(WORDS)
        self.check(desk, "let a = (number 0 2)", ["worked a b g zz c", "changed a b g zz c"])
        self.check(desk, "let a = (number 0 2)", ["worked a", "changed"])
        self.check(desk, "let f = (fun x 2 x)", ["worked f b c", "changed f"])
        self.check(desk, "let c = (number 1 2)", ["worked c", "changed c"])
        self.assertEqual(number(1, 2), desk.book.expression("c"))
        self.assertEqual(["a", "f", "b", "g", "zz", "c"], desk.book.names())

    def test_where_a_text_is_wrong(self):
        desk = Desk(WORDS)
        for line, at in (
            ("let x = ", 0), ("let x =  ", 1), ("let x = (number 2 2)", 10), ("let x =   (number 2 2)", 12), ("let  = x", 0), ("let  = ", 0),
            ("let x = (number 0 2", 11), ("let x = a b", 2), ("let x = (call f g", 8), ("let x = zzz", 2), ("let ! = (", 1), ("let a = b", 0), ("let a = a", 0),
            ("let b = c", 0), ("let b = zz", 0), ("let b = f", 0), ("let b = (call f a)x", 10), ("let f = (number", 2), ("let f = f", 0), ("let b = (call g", 6),
            ("let a = (number 0 3", 10), ("let call = (numb r", 5), ("let x = y = z", 0), ("let x =  = z", 1), ("let x = \t", 0),
        ):
            self.keeps(desk, line, [f"at {at}"])

    def test_read_first_and_then_refused(self):
        desk = Desk(WORDS)
        for line in (
            "let call = a", "let X = a", "let  = a", "let abcdefghi = (number 0 2)", "let x = a", "let u = (number 0 2)", "let n = (fun a 2 a)",
            "let n = (fun n 2 n)", "let a = (take f 2 (number 0 2) f)", "let = = a", "let a=b = a", "let let = " + TOO_LARGE, "let j = " + TOO_LARGE,
            "let \t = a", "let \u00e9 = a", "let ! = (number 0 1)",
        ):
            self.keeps(desk, line, ["refused"])
        self.check(desk, "let let = a", ["2"])
        self.check(desk, f"let k = {text(JUST)}", ["(to 1 1)"])
        self.keeps(desk, f"let k = {text(OVER)}", ["refused"])

    def test_unknown(self):
        desk = Desk(WORDS)
        for line in ("let", "let ", "let x", "let x =", "let x y = a", "let  x = a", "let x  = a", "let x=a", " let x = a", "lets x = a", "Let x = a", "let\tx = a"):
            self.keeps(desk, line, ["unknown"])


class Deeds(DeskCase):
    def test_rename_drop_and_share(self):
        desk = Desk(WORDS)
        self.check(desk, "rename a new", ["done"])
        self.assertEqual(["new", "f", "b", "g", "zz", "c"], desk.book.names())
        self.assertEqual(call(name("f"), name("new")), desk.book.expression("b"))
        self.check(desk, "drop c", ["done"])
        self.assertEqual(["new", "f", "b", "g", "zz"], desk.book.names())
        self.check(desk, "let k = (draw 1/2 1/2)", ["2"])
        self.check(desk, "let m = (take o 2 k o)", ["2"])
        self.check(desk, "lots", ["new zz k m", "f", "b", "g"])
        self.check(desk, "share", ["done"])
        self.assertEqual(["new", "f", "b", "g"], desk.book.names())
        self.check(desk, "share", ["done"])
        self.check(desk, "lots", ["new", "f", "b", "g"])

    def test_refused_deeds(self):
        desk = Desk(WORDS)
        for line in (
            "rename q x", "rename a a", "rename a f", "rename a x", "rename a u", "rename a call", "rename a A", "rename a abcdefghi", "rename A b",
            "drop a", "drop f", "drop b", "drop q", "drop x", "drop A",
        ):
            self.keeps(desk, line, ["refused"])
        self.check(desk, "undo", ["nothing"])

    def test_undo(self):
        desk = Desk(WORDS)
        self.keeps(desk, "undo", ["nothing"])
        states = []
        for line in ("let n = a", "let a = (number 0 2)", "let a = (number 0 2)", "rename n o", "drop o", "share", "share", "let n = (number 1 2)"):
            states.append(book_text(desk.book))
            self.assertNotIn(desk.say(line)[0], ("refused", "unknown"))
        for line in ("drop a", "let a = b", "foo", "book", "rename a a", "chances f"):
            desk.say(line)
        while states:
            self.check(desk, "undo", ["done"])
            self.assertEqual(states.pop(), book_text(desk.book))
        self.keeps(desk, "undo", ["nothing"])

    def test_undo_between_deeds(self):
        desk = Desk()
        for line, expected, names in (
            ("let a = (number 0 2)", "2", "a"), ("let b = a", "2", "a b"), ("undo", "done", "a"), ("let c = a", "2", "a c"), ("let d = c", "2", "a c d"),
            ("undo", "done", "a c"), ("drop a", "refused", "a c"), ("undo", "done", "a"), ("rename a b", "done", "b"), ("undo", "done", "a"),
            ("undo", "done", ""), ("undo", "nothing", ""), ("let z = (number 0 1)", "1", "z"), ("undo", "done", ""), ("undo", "nothing", ""),
        ):
            self.check(desk, line, [expected])
            self.assertEqual(names.split(), desk.book.names())

    def test_books_told_before_stay_as_they_were(self):
        desk = Desk(WORDS)
        before = desk.book
        desk.say("let n = a")
        desk.say("undo")
        self.assertTrue(desk.book == before)
        self.assertEqual(WORDS, book_text(before))

    def test_any_lines(self):
        source = random.Random(971)
        for _ in range(12):
            words = book_text(random_book(source, 5))
            desk = Desk(words)
            done = []
            for _ in range(40):
                line = self.line(source)
                before = book_text(desk.book)
                found = desk.say(line)
                self.assertIsInstance(found, list)
                self.assertTrue(all(isinstance(part, str) and "\n" not in part for part in found))
                word = line.split(" ")[0]
                if word == "undo":
                    self.assertEqual("done" if done else "nothing", found[0])
                    if done:
                        self.assertEqual(done.pop(), book_text(desk.book))
                elif word in ("let", "rename", "drop", "share") and found[0] not in ("refused", "unknown") and found[0][:3] != "at ":
                    done.append(before)
                else:
                    self.assertEqual(before, book_text(desk.book))
                self.assertEqual(book_text(read_book(book_text(desk.book))), book_text(desk.book))
            while done:
                desk.say("undo")
                self.assertEqual(done.pop(), book_text(desk.book))
            self.assertEqual(words, book_text(desk.book))

    def line(self, source):
        words = [source.choice("abcdefgn"), source.choice("abcdefgn")]
        texts = ["(number 0 2)", "(draw 1/3 1/2)", words[1], "(fun y 2 y)", f"(call f {words[1]})", "(number 0 3", "(fun y 2 (case 2 y y (number 1 2)))"]
        lines = [
            f"let {words[0]} = {source.choice(texts)}", f"let {words[0]} = {source.choice(texts)}", f"rename {words[0]} {words[1]}", f"drop {words[0]}",
            "share", "undo", "undo", f"kind {words[0]}", f"text {words[0]}", f"table {words[0]}", f"whole {words[0]}", f"chances {words[0]}",
            f"uses {words[0]}", f"users {words[0]}", "lots", f"listens {words[1]} {words[0]}", "book", "", "boo",
        ]
        return source.choice(lines)


class Asking(DeskCase):
    def test_each_line(self):
        desk = Desk(WORDS)
        for line, expected in (
            ("kind a", ["2"]), ("kind g", ["(to (to 2 2) 2)"]), ("text b", ["(call f a)"]), ("text f", ["(fun x 2 (case 2 x x (number 1 2)))"]),
            ("table f", ["{1 0.0 0.0 | 1 0.0 0.1 + 1 0.1}"]), ("table b", ["{1/4 | 3/4}"]), ("whole zz", ["(take u 2 (draw 1/2 1/2) u)"]),
            ("whole b", ["(call (fun x 2 (case 2 x x (number 1 2))) (draw 1/2 1/2))"]), ("chances b", ["1/4 3/4"]), ("chances a", ["1/2 1/2"]),
            ("uses a", []), ("uses b", ["a", "f"]), ("uses c", ["f", "g"]), ("users a", ["b", "zz"]), ("users f", ["b", "c"]), ("users c", []),
            ("lots", ["a zz", "f", "b", "g", "c"]), ("listens b a", ["yes"]), ("listens zz f", ["no"]), ("listens c a", ["yes"]), ("listens c zz", ["no"]),
            ("book", [line[:-1] for line in LINES]), ("text zz", ["(take u 2 a u)"]),
        ):
            self.keeps(desk, line, expected)

    def test_an_empty_book(self):
        desk = Desk()
        for line, expected in (("lots", []), ("book", []), ("share", ["done"]), ("undo", ["done"]), ("undo", ["nothing"]), ("kind a", ["refused"])):
            self.check(desk, line, expected)

    def test_nothing_comes_with_chance_nothing(self):
        desk = Desk()
        desk.say("let n = (never 3)")
        self.keeps(desk, "chances n", ["0 0 0"])
        self.keeps(desk, "table n", ["{0 | 0 | 0}"])

    def test_refused(self):
        desk = Desk(WORDS)
        desk.say("let k = (fun y 2 (number 0 2))")
        desk.say("let m = (never (to 2 2))")
        for word in ("kind", "text", "table", "whole", "chances", "uses", "users"):
            for value in ("q", "x", "A", "call", "!", "a,b", "\t"):
                self.keeps(desk, f"{word} {value}", ["refused"])
        for line in ("chances f", "chances g", "chances k", "chances m", "listens a b", "listens a a", "listens q a", "listens a q", "listens q q"):
            self.keeps(desk, line, ["refused"])

    def test_refused_for_size(self):
        desk = Desk()
        desk.say("let a = (draw 1/2 1/2)")
        for before, word in zip("abcdefgh", "bcdefghi"):
            self.check(desk, f"let {word} = (case 2 {before} {before} {before})", ["2"])
        self.keeps(desk, "whole i", ["refused"])
        self.assertEqual(1, len(desk.say("whole d")))
        often = "(fun x 1 (case 1 x (case 1 x (case 1 x (case 1 x (case 1 x (case 1 x (case 1 x x))))))))"
        desk = Desk()
        for line in (f"let s = {often}", "let t = (fun y 1 (call s (call s y)))", "let z = (fun x 1 (number 0 1))"):
            desk.say(line)
        desk.say("let w = (fun x 1 (call t (call z (call t x))))")
        self.keeps(desk, "listens w z", ["refused"])
        self.keeps(desk, "listens w t", ["yes"])

    def test_unknown(self):
        desk = Desk(WORDS)
        for line in (
            "", " ", "  ", "foo", "kind", "kind ", "kind  a", "kind a ", " kind a", "kind a b", "text", "table a b", "whole", "chances", "uses", "users a b",
            "lots a", "lots ", " lots", "listens", "listens a", "listens a b c", "listens  a b", "listens a  b", "book a", "book ", "rename a", "rename",
            "rename a b c", "rename  a b", "rename a  b", "drop", "drop ", "drop a b", "drop  c", "share a", "share ", "undo a", "undo ", " undo", "UNDO",
            "Kind a", "kinds a", "names", "define a b", "kind\ta", "at 0", "done", "copy", "shared", "change a b",
        ):
            self.keeps(desk, line, ["unknown"])
        for line in WRONG_LINES:
            if line[:4] != "let ":
                self.keeps(desk, line, ["unknown"])

    def test_as_the_book_tells(self):
        source = random.Random(972)
        for _ in range(12):
            book = random_book(source, 6)
            desk = Desk(book_text(book))
            for word in book.names():
                names = [(part, book.kind(part)) for part in book.uses(word)]
                self.keeps(desk, f"kind {word}", [text_of_kind(book.kind(word))])
                self.keeps(desk, f"text {word}", [text(book.expression(word), names)])
                self.keeps(desk, f"table {word}", [table_text(book.kind(word), book.table(word))])
                self.keeps(desk, f"uses {word}", book.uses(word))
                self.keeps(desk, f"users {word}", book.users(word))
            self.keeps(desk, "lots", [" ".join(lot) for lot in book.lots()])
            self.keeps(desk, "book", book_text(book).split("\n")[:-1])


if __name__ == "__main__":
    unittest.main()
