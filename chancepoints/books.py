"""Books of definitions, each with the table that it has by those that it uses."""

from chancepoints.errors import BadExpression, BadKind, BadName, NoName, Taken, Used
from chancepoints.kinding import kind_for
from chancepoints.nodes import is_plain_name, is_shaped
from chancepoints.telling import Telling
from chancepoints.terms import bound_in, check_expression, free_in, with_all_free


class Definition:
    """An expression with its free names and those that it binds, its kind and its table.

    It is never changed, so that books may share it.
    """

    def __init__(self, body, shape, worth):
        self.body = body
        self.free = free_in(body)
        self.bound = bound_in(body)
        self.shape = shape
        self.worth = worth

    def stands_on(self, names):
        """Whether one of these names is free in the expression."""
        return any([name in names for name in self.free])

    def with_names(self, exchanged):
        """The definition in which each free name is exchanged for what a dict tells of it."""
        parts = {name: ("name", exchanged.get(name, name)) for name in self.free}
        return Definition(with_all_free(self.body, parts), self.shape, self.worth)


def _table_by(body, told):
    """The table of an expression that uses what a dict from names to definitions tells."""
    telling = Telling()
    names = {}
    for name in free_in(body):
        names[name] = (None, telling.closed_table(told[name].worth, told[name].shape))
    return telling.store.told(telling.table_of(body, names))


def _has_calls_of_first(store, table):
    """Whether a call of the first thing around a kept table stands in it, at any depth."""
    for part in store.tables_in(table):
        for row in store.tables[part][1]:
            for point, _ in row:
                if any([store.calls[call][0] == 0 for call in point]):
                    return True
    return False


class Book:
    """A list of definitions, told by a dict from their names."""

    def __init__(self):
        self._told = {}

    def __eq__(self, other):
        if not isinstance(other, Book):
            return False
        return self._pairs() == other._pairs()

    def __len__(self):
        return len(self._told)

    def _pairs(self):
        return [(name, self._told[name].body) for name in self._told]

    def _check_there(self, name):
        if not isinstance(name, str) or name not in self._told:
            raise NoName(name)

    def _check_new(self, name):
        if not is_plain_name(name):
            raise BadName("no name")
        if name in self._told or any([name in told.bound for told in self._told.values()]):
            raise Taken(name)

    def _check_bound(self, name, expression):
        for bound in bound_in(expression):
            if bound == name or bound in self._told:
                raise Taken(bound)

    def _ahead(self, name):
        """The list of the names of the definitions ahead of this one."""
        names = self.names()
        return names[:names.index(name)]

    def _kind_by(self, ahead, expression):
        """The kind of an expression that uses only definitions with names ahead, or None."""
        free = free_in(expression)
        for name in free:
            if name not in ahead:
                raise NoName(name)
        return kind_for(expression, {name: self._told[name].shape for name in free})

    def _rests_on(self, name):
        """The list, in the order of the book, of this name and all that its program comes of."""
        found = {name: True}
        for word in reversed(self.names()):
            if word in found:
                for used in self._told[word].free:
                    found[used] = True
        return [word for word in self._told if word in found]

    def define(self, name, expression):
        """Put a definition behind all others."""
        self._check_new(name)
        check_expression(expression)
        self._check_bound(name, expression)
        kind = self._kind_by(self._told, expression)
        if kind is None:
            raise BadKind("the expression has no kind")
        self._told[name] = Definition(expression, kind, _table_by(expression, self._told))

    def change(self, name, expression):
        """Give a definition another expression; tells what was worked out and what is changed."""
        self._check_there(name)
        check_expression(expression)
        self._check_bound(name, expression)
        kind = self._told[name].shape
        if self._kind_by(self._ahead(name), expression) != kind:
            raise BadKind("the expression has not the kind of the definition")
        told = dict(self._told)
        told[name] = Definition(expression, kind, None)
        worked, changed = [], []
        for word in self._told:
            definition = told[word]
            if word == name or definition.stands_on(changed):
                table = _table_by(definition.body, told)
                told[word] = Definition(definition.body, definition.shape, table)
                worked.append(word)
                if table != self._told[word].worth:
                    changed.append(word)
        # Only now it is sure that no table is too large.
        self._told = told
        return tuple(worked), tuple(changed)

    def rename(self, old, new):
        """Call a definition by another name, in all expressions, too."""
        self._check_there(old)
        self._check_new(new)
        made = {}
        for word in self._told:
            definition = self._told[word]
            if definition.stands_on([old]):
                definition = definition.with_names({old: new})
            made[new if word == old else word] = definition
        self._told = made

    def drop(self, name):
        """Put a definition that no other one uses out of the book."""
        self._check_there(name)
        users = self.users(name)
        if users:
            raise Used(users[0])
        self._told.pop(name)

    def names(self):
        """The list of the names of all definitions."""
        return list(self._told)

    def kind(self, name):
        """The kind of a definition."""
        self._check_there(name)
        return self._told[name].shape

    def expression(self, name):
        """The expression of a definition."""
        self._check_there(name)
        return self._told[name].body

    def table(self, name):
        """The table of a definition."""
        self._check_there(name)
        return self._told[name].worth

    def uses(self, name):
        """The list of the names of the definitions that this one uses."""
        self._check_there(name)
        return [word for word in self._told if word in self._told[name].free]

    def users(self, name):
        """The list of the names of the definitions that use this one."""
        self._check_there(name)
        return [word for word in self._told if self._told[word].stands_on([name])]

    def whole(self, name):
        """The program of a definition, with expressions in the place of names of others."""
        self._check_there(name)
        made = {}
        for word in self._rests_on(name):
            made[word] = with_all_free(self._told[word].body, made)
            # It would stand whole in what comes.
            if not is_shaped(made[word]):
                raise BadExpression("too large")
        return made[name]

    def listens(self, name, other):
        """Whether a call of the other one stands in the table if that one is a thing around."""
        self._check_there(name)
        if not isinstance(other, str) or other not in self._ahead(name):
            raise NoName(other)
        telling = Telling(1)
        names = {other: (0, self._told[other].shape)}
        resting = [other]
        for word in self._rests_on(name):
            definition = self._told[word]
            if definition.stands_on(resting):
                resting.append(word)
                names[word] = (None, telling.table_of(definition.body, names))
            elif word != other:
                names[word] = (None, telling.closed_table(definition.worth, definition.shape))
        return _has_calls_of_first(telling.store, names[name][1])

    def lots(self):
        """The list of the lists of names of definitions that are of one kind and one table."""
        found = []
        for word in self._told:
            at = self._lot_of(word, found)
            if at == len(found):
                found.append([])
            found[at].append(word)
        return found

    def _lot_of(self, name, lots):
        """The index of the lot of a definition; that of the next one if there is none so far."""
        definition = self._told[name]
        for at, lot in enumerate(lots):
            first = self._told[lot[0]]
            if first.shape == definition.shape and first.worth == definition.worth:
                return at
        return len(lots)

    def shared(self):
        """A new book in which the first definition of each lot stands for the others of it."""
        firsts = {}
        for lot in self.lots():
            for word in lot:
                firsts[word] = lot[0]
        left = {}
        for word in self._told:
            if firsts[word] == word:
                left[word] = self._told[word].with_names(firsts)
        made = Book()
        made._told = left
        return made

    def copy(self):
        """A book of its own with the same definitions."""
        made = Book()
        made._told = dict(self._told)
        return made
