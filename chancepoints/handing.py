"""Handing: the table of a thing in the place of what another table is handed."""

from chancepoints.stores import RowSum, row_product
from chancepoints.weights import ALL, multiplied


class Handing:
    """What is put together of the tables of one store.

    All that was worked out is kept, by numbers of tables, since the same calls stand in many
    points. Tables in one another are gone through by ascending numbers, inner ones first, and
    not by functions that call one another, because they may nest deep.
    """

    def __init__(self, store):
        self.store = store
        self.moved_tables = {}
        self.changed_tables = {}

    def moved(self, table, first, by):
        """The table in which each thing from first on has a number that is greater by so much."""
        if (table, first, by) not in self.moved_tables:
            for part in self.store.tables_in(table):
                if (part, first, by) not in self.moved_tables:
                    self.moved_tables[(part, first, by)] = self._moved_one(part, first, by)
        return self.moved_tables[(table, first, by)]

    def _moved_one(self, table, first, by):
        own, rows = self.store.tables[table]
        made = []
        for row in rows:
            pairs = [(self._moved_point(point, first, by), part) for point, part in row]
            made.append(tuple(sorted(pairs)))
        return self.store.table_number(own, tuple(made))

    def _moved_point(self, point, first, by):
        calls = []
        for call in point:
            thing, tables, number = self.store.calls[call]
            inner = tuple([self.moved_tables[(part, first, by)] for part in tables])
            calls.append(self.store.call_number(thing + by if thing >= first else thing, inner, number))
        return tuple(sorted(calls))

    def handed(self, table, around, argument):
        """The table, with so many things around, that is handed the argument with as many."""
        return self._changed(table, around, around, argument)

    def _changed(self, table, around, thing, worth):
        """The table with worth in the place of the thing; those behind are numbered one less.

        around tells how many things are around the table; thing is among these or its first
        own one. Around worth are just the things ahead of that one.
        """
        if (table, around, thing, worth) not in self.changed_tables:
            for part, many in self._places_in(table, around):
                if (part, many, thing, worth) not in self.changed_tables:
                    changed = self._changed_one(part, many, thing, worth)
                    self.changed_tables[(part, many, thing, worth)] = changed
        return self.changed_tables[(table, around, thing, worth)]

    def _places_in(self, table, around):
        """The ascending list of pairs of a table in this one, or it, and how many are around."""
        found = {(table, around): True}
        waiting = [(table, around)]
        while waiting:
            outer, many = waiting.pop()
            inside = many + self.store.tables[outer][0]
            for part in self.store.inner_tables(outer):
                if (part, inside) not in found:
                    found[(part, inside)] = True
                    waiting.append((part, inside))
        return sorted(found)

    def _changed_one(self, table, around, thing, worth):
        own, rows = self.store.tables[table]
        inside = around + own
        given = self.moved(worth, thing, inside - 1 - thing)
        ways = {}
        made = []
        for row in rows:
            found = RowSum(self.store)
            for point, part in row:
                for call in point:
                    if call not in ways:
                        ways[call] = self._way(call, inside, thing, worth, given)
                for behind, factor in self._product([ways[call] for call in point]):
                    found.put(behind, multiplied(part, factor))
            made.append(found.row())
        changed = self.store.table_number(own - 1 if thing == around else own, tuple(made))
        self.store.check_size(changed)
        return changed

    def _way(self, call, inside, thing, worth, given):
        """The row that comes in the place of a call in a point with so many things inside.

        given is worth, with all but the thing around it.
        """
        called, tables, number = self.store.calls[call]
        inner = [self.changed_tables[(part, inside, thing, worth)] for part in tables]
        if called == thing:
            return self._answering_row(given, inside - 1, inner, number)
        if called > thing:
            called -= 1
        return (((self.store.call_number(called, tuple(inner), number),), ALL),)

    def _answering_row(self, table, around, arguments, number):
        """The row of this number of what comes if table is handed all arguments, one by one."""
        for argument in arguments:
            table = self.handed(table, around, argument)
        return self.store.tables[table][1][number]

    def _product(self, rows):
        """The product of kept rows."""
        # Looked at ahead: else a product could be too large that comes to nothing at the end.
        if not all([len(row) > 0 for row in rows]):
            return ()
        product = (((), ALL),)
        for row in rows:
            product = row_product(self.store, product, row)
        return product
