"""Texts of closed tables, and tables read from such."""

from chancepoints.shares import DIGITS
from chancepoints.wording import weight_text

# Python tells and reads no longer wholes as texts.
MOST_DIGITS = 4300
# Tables nest at most 60 in one another; deeper texts are not gone into.
MOST_DEEP = 100


def _call_pieces(call):
    thing, tables, number = call
    found = [f" {thing}"]
    for at, table in enumerate(tables):
        found.append(", " if at else "(")
        found.append(table)
    found.append(f").{number}" if tables else f".{number}")
    return found


def _table_pieces(table):
    """The list of texts, and of the tables in it, whose texts are that of a table."""
    found = []
    for at, row in enumerate(table):
        found.append(" | " if at else "{")
        if not row:
            found.append("0")
        for place, (point, worth) in enumerate(row):
            found.append(" + " if place else "")
            found.append(weight_text(worth))
            for call in point:
                found.extend(_call_pieces(call))
    found.append("}")
    return found


def rows_text(table):
    """The text of what surely is a table."""
    found = []
    waiting = [table]
    while waiting:
        part = waiting.pop()
        if isinstance(part, str):
            found.append(part)
        else:
            waiting.extend(list(reversed(_table_pieces(part))))
    return "".join(found)


class OpenTable:
    """A table that is being read: its rows, the points of the last one, and what is begun."""

    def __init__(self):
        self.rows = []
        self.points = []
        self.worth = None
        self.calls = []
        self.called = None
        self.inner = []

    def end_call(self, number):
        """Put the call that is begun to the others of the point."""
        self.calls.append((self.called, tuple(self.inner), number))

    def end_point(self):
        """Put the point that is begun to the others of the row."""
        self.points.append((tuple(self.calls), self.worth))
        self.calls = []

    def end_row(self):
        """Put the row that is begun to the others."""
        self.rows.append(tuple(self.points))
        self.points = []


class TableReading:
    """Reads a text as that of a table, step by step; each step tells the word of the next one.

    It is left to others to see whether what comes is a table, and the text just its text.
    """

    def __init__(self, text):
        self.text = text
        self.at = 0
        self.begun = []
        self.whole_table = None

    def go(self):
        """Read the text: what it tells as a table, or None if it tells none."""
        word = "table"
        while word is not None:
            word = self._step(word)
        return self.whole_table if self.at == len(self.text) else None

    def _step(self, word):
        if word == "table":
            return self._begin_table()
        if word == "row":
            return "end" if self._passes("0") else "point"
        if word == "point":
            return self._read_weight()
        if word == "call":
            return self._begin_call()
        if word == "answer":
            return self._read_answer()
        return self._end_row()

    def _passes(self, part):
        """Whether the text goes on with part, which is then passed."""
        if not self.text.startswith(part, self.at):
            return False
        self.at += len(part)
        return True

    def _read_whole(self):
        """The whole whose digits come next; None if there are none, or too many."""
        first = self.at
        while self.at < len(self.text) and self.text[self.at] in DIGITS:
            self.at += 1
        if not 1 <= self.at - first <= MOST_DIGITS:
            return None
        return int(self.text[first:self.at])

    def _begin_table(self):
        if not self._passes("{") or len(self.begun) >= MOST_DEEP:
            return None
        self.begun.append(OpenTable())
        return "row"

    def _read_weight(self):
        top = self._read_whole()
        bottom = self._read_whole() if self._passes("/") else 1
        if top is None or bottom is None:
            return None
        self.begun[-1].worth = (top, bottom)
        return "call"

    def _begin_call(self):
        newest = self.begun[-1]
        if self._passes(" + "):
            newest.end_point()
            return "point"
        if self.text.startswith(" | ", self.at) or not self._passes(" "):
            newest.end_point()
            return "end"
        newest.called = self._read_whole()
        newest.inner = []
        return "table" if self._passes("(") else "answer"

    def _read_answer(self):
        number = self._read_whole() if self._passes(".") else None
        if number is None:
            return None
        self.begun[-1].end_call(number)
        return "call"

    def _end_row(self):
        newest = self.begun[-1]
        newest.end_row()
        if self._passes(" | "):
            return "row"
        if not self._passes("}"):
            return None
        self.begun.pop()
        made = tuple(newest.rows)
        if not self.begun:
            self.whole_table = made
            return None
        self.begun[-1].inner.append(made)
        if self._passes(", "):
            return "table"
        return "answer" if self._passes(")") else None


def read_rows(text):
    """What a text tells as a table, whatever it is the table of; None if it tells none."""
    return TableReading(text).go()
