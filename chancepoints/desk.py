"""A desk: a book that is worked on by lines."""

from chancepoints.booktexts import book_lines, kinds_of, read_book
from chancepoints.errors import BadKind, BadLine, ChanceError
from chancepoints.reader import read_far
from chancepoints.rows import rows_text
from chancepoints.tables import chances_told
from chancepoints.wording import expression_text, kind_text, weight_text

DONE = "done"


def _read_let(book, name, text):
    """The pair of the expression of a text for a definition, and None; or of None and a place.

    The place tells how long the longest beginning is with which the text begins.
    """
    ahead, kind = book.names(), None
    if name in ahead:
        ahead, kind = ahead[:ahead.index(name)], book.kind(name)
    reader, at = read_far(text, kinds_of(book, ahead), kind)
    read = reader.told() if at == len(text) else None
    return (None, at) if read is None else (read[0], None)


def _let(book, name, expression):
    """Define or change; the lines that are told of it."""
    if name not in book.names():
        book.define(name, expression)
        return [kind_text(book.kind(name))]
    worked, changed = book.change(name, expression)
    return [" ".join(["worked", *worked]), " ".join(["changed", *changed])]


def _deed(book, words):
    """Do what the words of a line tell; whether they tell a deed."""
    if words[0] == "rename" and len(words) == 3:
        book.rename(words[1], words[2])
        return True
    if words[0] == "drop" and len(words) == 2:
        book.drop(words[1])
        return True
    return False


def _text_of(book, name):
    return expression_text(book.expression(name), kinds_of(book, book.uses(name)))


def _chances_text(book, name):
    if book.kind(name)[0] != "num":
        raise BadKind("the definition is not of a number")
    return " ".join([weight_text(part) for part in chances_told(book.table(name))])


def _told_of_one(book, word, name):
    """What a line of a word and a name tells; None if there is no such line."""
    if word == "kind":
        return [kind_text(book.kind(name))]
    if word == "text":
        return [_text_of(book, name)]
    if word == "table":
        return [rows_text(book.table(name))]
    if word == "whole":
        return [expression_text(book.whole(name), {})]
    if word == "chances":
        return [_chances_text(book, name)]
    if word == "uses":
        return book.uses(name)
    if word == "users":
        return book.users(name)
    return None


def _told(book, words):
    """What a line tells that does nothing; None if there is no such line."""
    if words == ["lots"]:
        return [" ".join(lot) for lot in book.lots()]
    if words == ["book"]:
        return book_lines(book)
    if len(words) == 2:
        return _told_of_one(book, words[0], words[1])
    if words[0] == "listens" and len(words) == 3:
        return ["yes" if book.listens(words[1], words[2]) else "no"]
    return None


class Desk:
    """A desk with a book, and with the books that were there ahead of its deeds."""

    def __init__(self, text=""):
        self.book = read_book(text)
        self._past = []

    def say(self, line):
        """Do or tell what a line says: a list of strings."""
        if not isinstance(line, str) or "\n" in line:
            raise BadLine("no string without a line feed")
        try:
            found = self._answer(line)
        except ChanceError:
            return ["refused"]
        return ["unknown"] if found is None else found

    def _answer(self, line):
        """The lines that are told of a line; None if there is no such line."""
        words = line.split(" ")
        if "" in words and words[0] != "let":
            return None
        if words[0] == "let":
            return self._answer_let(line)
        if words == ["undo"]:
            return self._undo()
        if words == ["share"]:
            self._go_on(self.book.shared())
            return [DONE]
        book = self.book.copy()
        if _deed(book, words):
            self._go_on(book)
            return [DONE]
        return _told(self.book, words)

    def _answer_let(self, line):
        _, _, rest = line.partition(" ")
        name, equals, text = rest.partition(" = ")
        if equals == "" or " " in name:
            return None
        expression, at = _read_let(self.book, name, text)
        if expression is None:
            return [f"at {at}"]
        # The book ahead of the deed stays as it is, for the way back.
        book = self.book.copy()
        found = _let(book, name, expression)
        self._go_on(book)
        return found

    def _go_on(self, book):
        """Have another book from now on."""
        self._past.append(self.book)
        self.book = book

    def _undo(self):
        if not self._past:
            return ["nothing"]
        self.book = self._past.pop()
        return [DONE]
