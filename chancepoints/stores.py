"""A store that keeps each call and each table just once, and tells them by numbers.

So tables that are equal have one number, and a table in which another one stands a
thousand times is no larger than one in which it stands once.
"""

from chancepoints.errors import TooMany
from chancepoints.kinds import arguments_and_answer
from chancepoints.weights import ALL, added, multiplied

MOST_SIZE = 4000


class Store:
    """Calls and tables by their numbers; a table's number is above those of all tables in it.

    A kept call is a triple as any call, but that it tells its tables by their numbers. A kept
    table is a pair: how many things of its own it has, and its rows. A kept row is a tuple of
    pairs (point, weight), a kept point a tuple of the numbers of its calls, both ascending.
    """

    def __init__(self):
        self.calls = []
        self.call_sizes = []
        self.call_numbers = {}
        self.tables = []
        self.table_sizes = []
        self.table_numbers = {}

    def call_number(self, thing, tables, number):
        """The number of the call of a thing that is handed tables and comes to number."""
        call = (thing, tables, number)
        if call not in self.call_numbers:
            self.call_numbers[call] = len(self.calls)
            self.calls.append(call)
            self.call_sizes.append(1 + sum([self.table_sizes[part] for part in tables]))
        return self.call_numbers[call]

    def point_size(self, point):
        """The number of the points and calls that a kept point brings."""
        return 1 + sum([self.call_sizes[call] for call in point])

    def table_number(self, own, rows):
        """The number of the table with so many things of its own, and with these kept rows."""
        kept = (own, rows)
        if kept not in self.table_numbers:
            self.table_numbers[kept] = len(self.tables)
            self.tables.append(kept)
            sizes = [sum([self.point_size(point) for point, _ in row]) for row in rows]
            self.table_sizes.append(sum(sizes))
        return self.table_numbers[kept]

    def check_size(self, table):
        """Raise TooMany if the table with this number is too large."""
        if self.table_sizes[table] > MOST_SIZE:
            raise TooMany(MOST_SIZE)

    def never_table(self, kind):
        """The number of the table of this kind without points."""
        given, k = arguments_and_answer(kind)
        return self.table_number(len(given), ((),) * k)

    def number_table(self, weights):
        """The number of the table that comes to each number with its weight, and asks nothing."""
        rows = []
        for part in weights:
            rows.append((((), part),) if part[0] > 0 else ())
        return self.table_number(0, tuple(rows))

    def name_table(self, thing, kind, around):
        """The number of the table of a name for this thing of this kind, with so many around."""
        given, k = arguments_and_answer(kind)
        inner = around + len(given)
        tables = []
        for at, part in enumerate(given):
            tables.append(self.name_table(around + at, part, inner))
        rows = []
        for number in range(k):
            call = self.call_number(thing, tuple(tables), number)
            rows.append((((call,), ALL),))
        return self.table_number(len(given), tuple(rows))

    def fun_table(self, table):
        """The number of the table of which the last thing around is the first own one."""
        own, rows = self.tables[table]
        return self.table_number(own + 1, rows)

    def take_in(self, table, kind, things):
        """The number of what surely is a table of kind, things being the kinds of those around."""
        given, _ = arguments_and_answer(kind)
        rows = []
        for row in table:
            kept = []
            for point, part in row:
                kept.append((self._take_in_point(point, things + given), part))
            rows.append(tuple(sorted(kept)))
        return self.table_number(len(given), tuple(rows))

    def _take_in_point(self, point, things):
        calls = []
        for thing, tables, number in point:
            inner = []
            for table, kind in zip(tables, arguments_and_answer(things[thing])[0]):
                inner.append(self.take_in(table, kind, things))
            calls.append(self.call_number(thing, tuple(inner), number))
        return tuple(sorted(calls))

    def inner_tables(self, table):
        """The list of the tables whose calls stand in the points of this one, each once."""
        found = {}
        for row in self.tables[table][1]:
            for point, _ in row:
                for call in point:
                    for part in self.calls[call][1]:
                        found[part] = True
        return list(found)

    def tables_in(self, table):
        """The ascending list of this table and all tables in it, at every depth."""
        found = {table: True}
        waiting = [table]
        while waiting:
            outer = waiting.pop()
            for part in self.inner_tables(outer):
                if part not in found:
                    found[part] = True
                    waiting.append(part)
        return sorted(found)

    def told(self, table):
        """The table with this number as the document tells tables."""
        found = {}
        for part in self.tables_in(table):
            found[part] = self._told_one(part, found)
        return found[table]

    def _told_one(self, table, found):
        """The table as the document tells it, found telling those in it."""
        rows = []
        for row in self.tables[table][1]:
            pairs = [(self._told_point(point, found), part) for point, part in row]
            rows.append(tuple(sorted(pairs, key=lambda pair: pair[0])))
        return tuple(rows)

    def _told_point(self, point, found):
        calls = []
        for call in point:
            thing, tables, number = self.calls[call]
            calls.append((thing, tuple([found[part] for part in tables]), number))
        return tuple(sorted(calls))

    def told_point(self, point):
        """The kept point as the document tells points."""
        found = {}
        for call in point:
            for part in self.calls[call][1]:
                found[part] = self.told(part)
        return self._told_point(point, found)


class RowSum:
    """A row while points are added to it; like points are one, and their weights are added."""

    def __init__(self, store):
        self.store = store
        self.weights = {}
        self.large = 0

    def put(self, point, worth):
        """Add a kept point with a weight above nothing."""
        if point in self.weights:
            self.weights[point] = added(self.weights[point], worth)
            return
        self.weights[point] = worth
        self.large += self.store.point_size(point)
        # Weights are above nothing, so what is too large now will not be less at the end.
        if self.large > MOST_SIZE:
            raise TooMany(MOST_SIZE)

    def row(self):
        """The kept row of all points that were added."""
        return tuple(sorted([(point, self.weights[point]) for point in self.weights]))


def row_product(store, one, other):
    """The product of two kept rows, like points being added."""
    found = RowSum(store)
    for point, part in one:
        for behind, factor in other:
            found.put(tuple(sorted(point + behind)), multiplied(part, factor))
    return found.row()
