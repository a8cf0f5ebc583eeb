"""Code: a program as rows that tell each name by the place of its binding."""

from chancepoints.judging import is_same, is_whole
from chancepoints.kinding import kinds_in
from chancepoints.kinds import MOST_NUMBERS
from chancepoints.nodes import MOST_LEVELS, MOST_NODES, nth_name
from chancepoints.terms import check_program, is_program


def _place_of(name, sight):
    """The number of the nearest binding of a name, sight being the names in sight in order."""
    return max([at for at, told in enumerate(sight) if told == name])


class Laying:
    """Lays the rows of a program from place 0 on."""

    def __init__(self, program):
        self.kinds = kinds_in(program, {})
        self.rows = []

    def lay(self, expression, path, sight):
        """Lay the rows of the expression at path, sight being the names in sight in order."""
        word = expression[0]
        if word == "name":
            self.rows.append(("look", _place_of(expression[1], sight)))
        elif word == "fun":
            self.rows.append(("grab", expression[2]))
            self.lay(expression[3], path + (3,), sight + (expression[1],))
        elif word == "call":
            self._call_rows(expression, path, sight)
        elif word == "case":
            self._case_rows(expression, path, sight)
        elif word == "take":
            self._take_rows(expression, path, sight)
        else:
            self.rows.append(expression)

    def _call_rows(self, expression, path, sight):
        at = len(self.rows)
        self.rows.append(None)
        self.lay(expression[1], path + (1,), sight)
        self.rows[at] = ("hand", len(self.rows), self.kinds[path + (2,)])
        self.lay(expression[2], path + (2,), sight)

    def _case_rows(self, expression, path, sight):
        at = len(self.rows)
        self.rows.append(None)
        self.lay(expression[1], path + (1,), sight)
        places = []
        for number, part in enumerate(expression[2]):
            places.append(len(self.rows))
            self.lay(part, path + (2, number), sight)
        self.rows[at] = ("case", tuple(places))

    def _take_rows(self, expression, path, sight):
        at = len(self.rows)
        self.rows.append(None)
        self.lay(expression[2], path + (2,), sight)
        self.rows[at] = ("take", len(self.rows))
        self.lay(expression[3], path + (3,), sight + (expression[1],))


def code_of(program):
    """The code of what surely is a program."""
    laying = Laying(program)
    laying.lay(program, (), ())
    return tuple(laying.rows)


def compiled(program):
    """The code of a program."""
    check_program(program)
    return code_of(program)


class Reading:
    """Reads rows one behind the other as a program, whatever places they tell.

    It is left to the reader's caller to see whether the program has this code.
    """

    def __init__(self, code):
        self.code = code
        self.place = 0
        self.many_bound = 0

    def read(self, sight, level):
        """The expression whose rows begin at the place now; None if there is none.

        sight is the tuple of the names in sight, level how deep the expression stands.
        """
        if self.place >= len(self.code) or level > MOST_LEVELS:
            return None
        row = self.code[self.place]
        self.place += 1
        if not isinstance(row, tuple) or len(row) < 2:
            return None
        if row[0] == "look":
            return self._read_name(row[1], sight)
        if row[0] == "grab":
            return self._read_fun(row[1], sight, level)
        if row[0] == "hand":
            return self._read_parts("call", 2, sight, level)
        if row[0] == "take":
            return self._read_take(sight, level)
        if row[0] == "case":
            return self._read_case(row[1], sight, level)
        return row

    def _read_name(self, at, sight):
        if not is_whole(at) or not 0 <= at < len(sight):
            return None
        return ("name", sight[at])

    def _new_name(self):
        self.many_bound += 1
        return nth_name(self.many_bound - 1)

    def _read_fun(self, kind, sight, level):
        name = self._new_name()
        body = self.read(sight + (name,), level + 1)
        return None if body is None else ("fun", name, kind, body)

    def _read_take(self, sight, level):
        name = self._new_name()
        taken = self.read(sight, level + 1)
        body = None if taken is None else self.read(sight + (name,), level + 1)
        return None if body is None else ("take", name, taken, body)

    def _read_parts(self, word, many, sight, level):
        parts = []
        for _ in range(many):
            part = self.read(sight, level + 1)
            if part is None:
                return None
            parts.append(part)
        return (word, *parts)

    def _read_case(self, places, sight, level):
        if not isinstance(places, tuple) or not 1 <= len(places) <= MOST_NUMBERS:
            return None
        read = self._read_parts("case", 1 + len(places), sight, level)
        return None if read is None else ("case", read[1], read[2:])


def source_of(code):
    """The program whose code any value is, with plain names; None if there is none."""
    if not isinstance(code, tuple) or len(code) > MOST_NODES:
        return None
    program = Reading(code).read((), 1)
    if not is_program(program) or not is_same(code, code_of(program)):
        return None
    return program
