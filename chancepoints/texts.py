"""Texts of expressions and of tables, and what is read from them."""

from chancepoints.errors import BadKind, BadTable, BadText
from chancepoints.kinding import kind_for
from chancepoints.kinds import check_kind, is_kind
from chancepoints.reader import read_far
from chancepoints.rows import read_rows, rows_text
from chancepoints.tables import check_table, is_closed_table
from chancepoints.terms import check_expression, told_names
from chancepoints.wording import expression_text

# All signs that may stand in right texts, ascending.
SIGNS = "\n ()/0123456789abcdefghijklmnopqrstuvwxyz"


def text(expression, names=()):
    """The text of an expression that has a kind for names."""
    check_expression(expression)
    kinds = told_names(names)
    if kind_for(expression, kinds) is None:
        raise BadKind("the expression has no kind for these names")
    return expression_text(expression, kinds)


def _names_of_right(text, names, kind):
    """The dict of names, if all three are of the right sorts."""
    if not isinstance(text, str):
        raise BadText(None)
    kinds = told_names(names)
    if kind is not None and not is_kind(kind):
        raise BadKind("neither a kind nor None")
    return kinds


def _reader_behind(text, names, kind):
    """The reader behind a text that is a beginning."""
    reader, at = read_far(text, _names_of_right(text, names, kind), kind)
    if at < len(text):
        raise BadText(at)
    return reader


def read(text, names=(), kind=None):
    """The expression that a right text for names and a kind, or any kind, tells."""
    told = _reader_behind(text, names, kind).told()
    if told is None:
        raise BadText(len(text))
    return told[0]


def completed(text, names=(), kind=None):
    """A right text that begins with the text."""
    reader = _reader_behind(text, names, kind)
    pieces = [text]
    while reader.told() is None:
        piece = reader.next_text()
        pieces.append(piece)
        for sign in piece:
            reader = reader.after(sign)
    return "".join(pieces)


def offers(text, names=(), kind=None):
    """The ascending list of the signs behind which the text still is a beginning."""
    reader = _reader_behind(text, names, kind)
    return [sign for sign in SIGNS if reader.after(sign) is not None]


def table_text(kind, table):
    """The text of a closed table of this kind."""
    check_kind(kind)
    check_table(kind, table)
    return rows_text(table)


def read_table(kind, text):
    """The closed table of this kind that has the text."""
    check_kind(kind)
    table = read_rows(text) if isinstance(text, str) else None
    if table is None or not is_closed_table(kind, table) or rows_text(table) != text:
        raise BadTable("no text of a closed table of the kind")
    return table
