"""Sure programs, and what they are where all that is handed is sure."""

from chancepoints.alike import tables_of_both
from chancepoints.apart import Making, check_told, first_parting
from chancepoints.errors import TooMany
from chancepoints.kinding import kind_for
from chancepoints.kinds import arguments_and_answer
from chancepoints.products import put
from chancepoints.stores import MOST_SIZE
from chancepoints.telling import Telling
from chancepoints.terms import check_program
from chancepoints.weights import ALL, multiplied, subtracted, total

HALF = (1, 2)
SURELY = {(): (1, 1)}


class Assuring:
    """Makes the sure tables of the tables in a store, each of them once for the same things.

    A row is a dict from kept points to weights while it is made. Kinds are told by numbers, since
    a key that is made of them is too deep otherwise.
    """

    def __init__(self, store):
        self.store = store
        self.found = {}
        self.kinds = []
        self.kind_numbers = {}

    def _kind_number(self, kind):
        told = kind
        if kind[0] == "to":
            told = ("to", self._kind_number(kind[1]), self._kind_number(kind[2]))
        if told not in self.kind_numbers:
            self.kind_numbers[told] = len(self.kinds)
            self.kinds.append(kind)
        return self.kind_numbers[told]

    def sure_table(self, table, kind, around):
        """The number of the sure table of a table of a kind, around being the numbers of the kinds
        of the things around it."""
        own = tuple([self._kind_number(part) for part in arguments_and_answer(kind)[0]])
        key = (table, own, around)
        if key not in self.found:
            rows = []
            for row in self.store.tables[table][1]:
                rows.append(self._sure_row(row, around + own))
            self.found[key] = self.store.table_number(len(own), tuple(rows))
        return self.found[key]

    def is_sure(self, table):
        """Whether a table that is sure is that of a sure thing."""
        found = {}
        for row in self.store.tables[table][1]:
            for point, part in row:
                put(found, point, part)
        return found == SURELY

    def _sure_row(self, row, things):
        found = {}
        ways = {}
        for point, part in row:
            for call in point:
                if call not in ways:
                    ways[call] = self._sure_call(call, things)
            product = _product([ways[call] for call in point])
            for behind in product:
                put(found, behind, multiplied(part, product[behind]))
            _check_points(found)
        return tuple([(point, found[point]) for point in sorted(found)])

    def _sure_call(self, call, things):
        """The row that comes in the place of a call, with things of these kinds in sight."""
        thing, tables, number = self.store.calls[call]
        kinds, many = arguments_and_answer(self.kinds[things[thing]])
        inner = tuple([self.sure_table(part, kind, things) for part, kind in zip(tables, kinds)])
        if number < many - 1 or not all([self.is_sure(part) for part in inner]):
            return {(self.store.call_number(thing, inner, number),): ALL}
        found = {(): ALL}
        for other in range(number):
            found[(self.store.call_number(thing, inner, other),)] = (-1, 1)
        return found


def _check_points(row):
    if len(row) > MOST_SIZE:
        raise TooMany(MOST_SIZE)


def _product(rows):
    """The product of rows."""
    product = {(): ALL}
    for row in rows:
        found = {}
        for point in product:
            for behind in row:
                put(found, tuple(sorted(point + behind)), multiplied(product[point], row[behind]))
        _check_points(found)
        product = found
    return product


def _sure_of(program):
    """A maker of sure tables, and the number of that of a program."""
    check_program(program)
    telling = Telling()
    assuring = Assuring(telling.store)
    return assuring, assuring.sure_table(telling.table_of(program, {}), kind_for(program, {}), ())


def sure_table(program):
    """The sure table of a program."""
    assuring, table = _sure_of(program)
    return assuring.store.told(table)


def is_sure(program):
    """Whether a program always comes to a number if all that it is handed does."""
    assuring, table = _sure_of(program)
    return assuring.is_sure(table)


def sure_alike(one, other):
    """Whether the sure tables of two programs of one kind are equal."""
    store, first, second = tables_of_both(one, other)
    assuring = Assuring(store)
    kind = kind_for(one, {})
    return assuring.sure_table(first, kind, ()) == assuring.sure_table(second, kind, ())


class SureMaking(Making):
    """Makes the told sure things of one surrounding."""

    def __init__(self, deep, many, seed):
        Making.__init__(self, deep, many, seed)
        self.ends = 2

    def answer_draw(self, k):
        """A draw of an answer, which always comes."""
        weights = self.next_weights(k - 1, 2 * k)
        return ("draw", weights + (subtracted(ALL, total(weights)),))

    def test_draw(self):
        """A draw of what a test comes to, which always comes."""
        weights = self.next_weights(1, 1)
        return ("draw", weights + (subtracted(ALL, weights[0]),))

    def deeper(self, body, k):
        """The body of a told sure thing, made once deeper."""
        going_on = subtracted(HALF, self.next_weights(1, 4)[0])
        testing = ("case", ("name", "t"), (body, ("number", k - 1, k)))
        return ("case", ("draw", (going_on, subtracted(ALL, going_on))), (testing, self.answer_draw(k)))


def told_sure(kind, deep, many, seed):
    """The surrounding in which what is put in is handed told sure things."""
    check_told(kind, deep, many, seed)
    return SureMaking(deep, many, seed).surrounding(kind)


def sure_parted(one, other):
    """None if two programs are sure-alike; otherwise the first round that parts them, and how."""
    return None if sure_alike(one, other) else first_parting(told_sure, one, other)
