"""booktexts.py: point 96."""

import random
import unittest

from chancepoints.books import Book
from chancepoints.booktexts import begun, book_text, read_book
from chancepoints.errors import BadBook, BadText
from chancepoints.texts import text
from tests.helping import Refusing, STRANGE
from tests.oracle import COIN, call, fun, name
from tests.test_books import A, B, F, book_of, random_book
from tests.test_manners import TWICE
from tests.test_meaning import JUST, OVER

LINES = [
    "a : 2 = (draw 1/2 1/2)\n", "f : (to 2 2) = (fun x 2 (case 2 x x (number 1 2)))\n", "b : 2 = (call f a)\n",
    "g : (to (to 2 2) 2) = (fun y (to 2 2) (call y b))\n", "zz : 2 = (take u 2 a u)\n", "c : 2 = (call g f)\n",
]
BOOK = [
    ("a", COIN), ("f", TWICE), ("b", call(name("f"), A)), ("g", fun("y", F, call(name("y"), B))), ("zz", ("take", "u", A, name("u"))),
    ("c", call(name("g"), name("f"))),
]
WRONG_LINES = [
    "", " ", "x", "x : 2", "x : 2 = ", "x : 2 = (number 0 3)", "x : 3 = (number 0 2)", "x : (to 2 2) = (number 0 2)", "x:2=(number 0 2)",
    "x : 2 =  (number 0 2)", "x : 2  = (number 0 2)", "x  : 2 = (number 0 2)", " x : 2 = (number 0 2)", "x : 2 = (number 0 2) ", "x : 2 = (number  0 2)",
    "x : 2 = ( number 0 2)", "x : 2 = (draw 2/4 1/2)", "x : 2 = (number 0 2", "x : 2 = (number 0 2))", "x : 2 = unknown", "x : 2 = x", "call : 2 = (number 0 2)",
    " : 2 = (number 0 2)", "X : 2 = (number 0 2)", "abcdefghi : 2 = (number 0 2)", "x y : 2 = (number 0 2)", "x : 2 = (number 0 2)\r", "x = (number 0 2)",
    "x : 2 : 2 = (number 0 2)", "x : 2 = 2 = (number 0 2)", "x : (to 2  2) = (fun y 2 y)", "x : ( to 2 2) = (fun y 2 y)", "x : 02 = (number 0 2)",
    "x : 2 = (fun x 2 x)", "x : (to 2 2) = (fun x 2 x)", "x : (to 2 3) = (fun y 2 y)", "x : 2 = (call (fun y 2 y) (number 0 3))", "x : 2 = y", "\t", "# x",
    "x : 2 = (case 2 (number 0 2) (number 0 2))", "\u00e9 : 2 = (number 0 2)",
]


class BookTexts(unittest.TestCase, Refusing):
    def test_by_hand(self):
        book = book_of(*BOOK)
        self.check_calls(book_text, {"book": book}, "".join(LINES))
        self.assertTrue(read_book("".join(LINES)) == book)
        self.assertTrue(read_book(text="".join(LINES)) == book)
        self.assertTrue(begun(text="".join(LINES)) == book)
        self.assertIs(Book, type(read_book("".join(LINES))))
        self.assertEqual(book.table("c"), read_book("".join(LINES)).table("c"))
        self.check_calls(book_text, {"book": Book()}, "")
        self.assertTrue(read_book("") == Book())
        self.assertTrue(begun("") == Book())

    def test_there_and_back(self):
        source = random.Random(961)
        for _ in range(25):
            book = random_book(source, 6)
            words = book_text(book)
            self.assertEqual(6, words.count("\n"))
            self.assertTrue(read_book(words) == book)
            self.assertTrue(begun(words) == book)
            for line, word in zip(words.split("\n"), book.names()):
                expected = text(book.expression(word), [(part, book.kind(part)) for part in book.uses(word)])
                self.assertEqual(f"{word} : {text_of_kind(book.kind(word))} = {expected}", line)
            for many in range(6):
                part = "".join(words.splitlines(True)[:many])
                self.assertEqual(book.names()[:many], read_book(part).names())

    def check_wrong(self, words, at, many):
        """The line at is the first wrong one, and so many are ahead of it."""
        self.assertEqual(at, self.refused(BadText, read_book, words).at, words)
        self.assertEqual(at, self.refused(BadText, read_book, text=words).at)
        self.assertTrue(begun(words) == book_of(*BOOK[:many]), words)

    def test_a_wrong_line_at_each_place(self):
        for wrong in WRONG_LINES:
            for at in range(len(LINES) + 1):
                self.check_wrong("".join(LINES[:at] + [wrong + "\n"] + LINES[at:]), at + 1, at)

    def test_the_first_of_two_wrong_lines(self):
        self.check_wrong("".join(LINES[:2] + ["\n"] + LINES[2:] + ["x\n"]), 3, 2)
        self.check_wrong("\n\n\n", 1, 0)
        self.check_wrong("\n", 1, 0)

    def test_behind_the_last_line_feed(self):
        for at in range(len(LINES)):
            self.check_wrong("".join(LINES[:at]) + LINES[at][:-1], at + 1, at)
            self.check_wrong("".join(LINES[:at]) + " ", at + 1, at)
            self.check_wrong("".join(LINES[:at]) + LINES[at] + LINES[at][:-1], at + 2, at + 1)
        self.check_wrong("x", 1, 0)

    def test_taken_names(self):
        for at, line in (
            (1, "a : 2 = (number 0 2)\n"), (2, "x : 2 = (number 0 2)\n"), (1, "x : (to 2 2) = (fun a 2 a)\n"), (6, "u : 2 = a\n"), (6, "y : 2 = a\n"),
            (5, "v : 2 = (take b 2 a b)\n"),
        ):
            self.check_wrong("".join(LINES[:at] + [line] + LINES[at:]), at + 1, at)
        first = ["y : 2 = (number 0 2)\n"]
        self.assertEqual(5, self.refused(BadText, read_book, "".join(first + LINES)).at)

    def test_names_of_later_lines(self):
        for at in range(1, len(LINES)):
            if at != 4:
                words = "".join(LINES[at:])
                self.assertIsInstance(self.refused(BadText, read_book, words).at, int)
        self.assertEqual(1, self.refused(BadText, read_book, "".join(LINES[2:])).at)
        self.check_wrong(LINES[0] + LINES[2] + LINES[1], 2, 1)

    def test_too_large_tables(self):
        just, over = text(JUST), text(OVER)
        self.assertEqual(["j"], read_book(f"j : (to 1 1) = {just}\n").names())
        self.assertEqual(1, self.refused(BadText, read_book, f"j : (to 1 1) = {over}\n").at)
        words = f"a : 2 = (draw 1/2 1/2)\nj : (to 1 1) = {over}\n"
        self.check_wrong(words, 2, 1)
        used = f"j : (to 1 1) = {just}\nk : (to 1 1) = (fun u 1 (call j (call j u)))\n"
        self.assertEqual(2, self.refused(BadText, read_book, used).at)
        self.assertEqual(["j"], begun(used).names())

    def test_books_are_made_anew(self):
        words = "".join(LINES)
        one = read_book(words)
        one.define("new", COIN)
        self.assertEqual(6, len(read_book(words)))
        other = begun(words)
        other.drop("c")
        self.assertEqual(6, len(begun(words)))

    def test_refusals(self):
        no_books = [value for value in STRANGE if not isinstance(value, Book)] + [[], "a : 2 = (number 0 2)\n", BOOK, Book]
        self.check_refusals(book_text, {"book": Book()}, [("book", no_books, BadBook)])
        no_texts = [value for value in STRANGE if not isinstance(value, str)] + [b"", LINES, [""], Book()]
        for function in (begun, read_book):
            self.check_refusals(function, {"text": ""}, [("text", no_texts, BadText)])
            for value in no_texts:
                self.assertIsNone(self.refused(BadText, function, value).at)


def text_of_kind(kind):
    return str(kind[1]) if kind[0] == "num" else "(to " + text_of_kind(kind[1]) + " " + text_of_kind(kind[2]) + ")"


if __name__ == "__main__":
    unittest.main()
