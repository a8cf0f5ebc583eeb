"""The tables of an expression and of all expressions in it, kept in a store."""

from chancepoints.handing import Handing
from chancepoints.nodes import binds_at, steps_and_parts
from chancepoints.stores import RowSum, Store, row_product
from chancepoints.weights import ALL, NOTHING


class Telling:
    """Works out tables in one store of its own.

    So many things are around all expressions. Names are told by a dict: from a name to the pair
    of a thing and its kind, or to the pair of None and the number of the table, with the things
    around all expressions, of what the name stands for.
    """

    def __init__(self, around=0):
        self.around = around
        self.store = Store()
        self.handing = Handing(self.store)

    def tables_of(self, expression, names):
        """The dict from all paths in the expression to the tables there, by their numbers.

        The expression surely has a kind for names.
        """
        found = {}
        self._tell(expression, names, self.around, (), found)
        return found

    def table_of(self, expression, names):
        """The number of the table of the expression."""
        return self.tables_of(expression, names)[()]

    def closed_table(self, table, kind):
        """The number of a closed table of this kind, as the document tells it, for names."""
        return self.handing.moved(self.store.take_in(table, kind, ()), 0, self.around)

    def _tell(self, expression, names, around, path, found):
        word = expression[0]
        if word == "name":
            table = self._name_table(names[expression[1]], around)
        elif word == "number":
            table = self._number_table(expression[1], expression[2])
        elif word == "draw":
            table = self.store.number_table(expression[1])
        elif word == "never":
            table = self.store.never_table(expression[1])
        else:
            inner = self._tell_parts(expression, names, around, path, found)
            table = self._table_by_parts(word, inner, around)
        found[path] = table
        return table

    def _tell_parts(self, expression, names, around, path, found):
        """The list of the tables of the parts of an expression, in order."""
        inner = []
        for steps, part in steps_and_parts(expression):
            here, many = names, around
            if binds_at(expression, steps):
                here = {**names, expression[1]: (around, self._bound_kind(expression, inner))}
                many = around + 1
            inner.append(self._tell(part, here, many, path + steps, found))
        return inner

    def _bound_kind(self, expression, inner):
        """The kind of what a fun or take binds, inner being the tables of its parts ahead."""
        if expression[0] == "fun":
            return expression[2]
        return ("num", len(self.store.tables[inner[0]][1]))

    def _name_table(self, meant, around):
        thing, worth = meant
        if thing is None:
            return self.handing.moved(worth, self.around, around - self.around)
        return self._checked(self.store.name_table(thing, worth, around))

    def _number_table(self, number, k):
        return self.store.number_table([ALL if at == number else NOTHING for at in range(k)])

    def _table_by_parts(self, word, inner, around):
        if word == "fun":
            return self.store.fun_table(inner[0])
        if word == "call":
            return self.handing.handed(inner[0], around, inner[1])
        if word == "case":
            return self._summed(inner[0], inner[1:], around)
        k = len(self.store.tables[inner[0]][1])
        body = self.store.fun_table(inner[1])
        ways = []
        for number in range(k):
            ways.append(self.handing.handed(body, around, self._number_table(number, k)))
        return self._summed(inner[0], ways, around)

    def _summed(self, asked, ways, around):
        """The sum of the products of each row of what is asked with the rows of its way."""
        own, rows = self.store.tables[ways[0]]
        # What stands in the calls of asked has the things of the ways around it, too.
        asking = self.store.tables[self.handing.moved(asked, around, own)][1]
        made = []
        for number in range(len(rows)):
            found = RowSum(self.store)
            for row, way in zip(asking, ways):
                for point, part in row_product(self.store, row, self.store.tables[way][1][number]):
                    found.put(point, part)
            made.append(found.row())
        return self._checked(self.store.table_number(own, tuple(made)))

    def _checked(self, table):
        self.store.check_size(table)
        return table
