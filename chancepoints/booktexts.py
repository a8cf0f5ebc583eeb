"""Books as texts, a line for each definition."""

from chancepoints.books import Book
from chancepoints.errors import BadBook, BadText, ChanceError
from chancepoints.reader import read_far
from chancepoints.wording import expression_text, kind_text


def kinds_of(book, names):
    """The dict from some names of a book to their kinds."""
    return {name: book.kind(name) for name in names}


def _line(name, expression, kind, names):
    return f"{name} : {kind_text(kind)} = {expression_text(expression, names)}"


def book_lines(book):
    """The list of the lines of the text of a book."""
    names = kinds_of(book, book.names())
    return [_line(name, book.expression(name), names[name], names) for name in names]


def book_text(book):
    """The text of a book."""
    if not isinstance(book, Book):
        raise BadBook("no book")
    return "".join([line + "\n" for line in book_lines(book)])


def _defines(book, line):
    """Whether a line is that of a definition that the book lets stand; if so it has it then."""
    name, _, told = line.partition(" : ")
    _, _, text = told.partition(" = ")
    names = kinds_of(book, book.names())
    reader, at = read_far(text, names, None)
    read = reader.told() if at == len(text) else None
    # More blanks may stand in what can be read than in the text of a book.
    if read is None or _line(name, read[0], read[1], names) != line:
        return False
    try:
        book.define(name, read[0])
    except ChanceError:
        return False
    return True


def _read_lines(text):
    """The pair of the book of the first lines, and the number of the first wrong one, or None."""
    if not isinstance(text, str):
        raise BadText(None)
    book = Book()
    lines = text.split("\n")
    for number, line in enumerate(lines[:-1]):
        if not _defines(book, line):
            return book, number + 1
    if lines[-1] != "":
        return book, len(lines)
    return book, None


def begun(text):
    """The book of the lines of a text ahead of the first one that is wrong."""
    return _read_lines(text)[0]


def read_book(text):
    """The book that has the text."""
    book, wrong = _read_lines(text)
    if wrong is not None:
        raise BadText(wrong)
    return book
