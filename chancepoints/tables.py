"""Closed tables: which are right, what stands in them, and the simplest ones."""

from chancepoints.errors import BadKind, BadNumber, BadTable
from chancepoints.judging import is_same, is_tuple_of, is_whole
from chancepoints.kinds import arguments_and_answer, check_kind, is_kind
from chancepoints.nodes import is_number_of
from chancepoints.stores import Store
from chancepoints.weights import ALL, NOTHING, is_weight


def _is_call(value, things):
    """Whether value is a triple of one of these things, a tuple for its tables, an answer of it."""
    if not is_tuple_of(value, 3):
        return False
    thing, tables, number = value
    if not is_whole(thing) or not 0 <= thing < len(things):
        return False
    given, k = arguments_and_answer(things[thing])
    return is_tuple_of(tables, len(given)) and is_whole(number) and 0 <= number < k


def _are_pairs(row):
    """Whether row is a tuple of pairs of a tuple and a weight above nothing."""
    if not isinstance(row, tuple) or not all([is_tuple_of(pair, 2) for pair in row]):
        return False
    return all([isinstance(point, tuple) and is_weight(part) and part[0] > 0 for point, part in row])


def _all_points(table):
    """The list of the points of all rows."""
    return [point for row in table for point, _ in row]


def _inner_tables(table, things):
    """The list of triples (table, kind, things around) of those in the calls; None if one is none."""
    found = []
    for point in _all_points(table):
        for call in point:
            if not _is_call(call, things):
                return None
            for part, kind in zip(call[1], arguments_and_answer(things[call[0]])[0]):
                found.append((part, kind, things))
    return found


def _is_ascending(table):
    """Whether the rows, and the points in them, ascend, no point standing twice in a row."""
    for row in table:
        points = [point for point, _ in row]
        if not all([one < other for one, other in zip(points, points[1:])]):
            return False
    for point in _all_points(table):
        if not all([one <= other for one, other in zip(point, point[1:])]):
            return False
    return True


def is_closed_table(kind, value):
    """Whether any value is a closed table of what surely is a kind."""
    waiting = [(value, kind, ())]
    found = []
    while waiting:
        table, own_kind, around = waiting.pop()
        given, k = arguments_and_answer(own_kind)
        if not is_tuple_of(table, k) or not all([_are_pairs(row) for row in table]):
            return False
        inner = _inner_tables(table, around + given)
        if inner is None:
            return False
        found.append(table)
        waiting.extend(inner)
    # Only now all parts are known to be of kinds that can be compared.
    return all([_is_ascending(table) for table in found])


def is_table(kind, value):
    """Whether any value is a closed table of this kind."""
    check_kind(kind)
    return is_closed_table(kind, value)


def check_table(kind, table):
    """Raise BadTable unless table is a closed table of what surely is a kind."""
    if not is_closed_table(kind, table):
        raise BadTable("no closed table of the kind")


def size(kind, table):
    """The number of points and calls in a table and in the tables in it, at every depth."""
    check_kind(kind)
    check_table(kind, table)
    found = 0
    waiting = [table]
    while waiting:
        inner = waiting.pop()
        for point in _all_points(inner):
            found += 1 + len(point)
            for call in point:
                waiting.extend(call[1])
    return found


def weight_at(kind, table, number, point):
    """The weight of any value point in the row of this number."""
    check_kind(kind)
    check_table(kind, table)
    if not is_whole(number) or not 0 <= number < len(table):
        raise BadNumber("the table has no row of this number")
    for told, part in table[number]:
        if is_same(point, told):
            return part
    return NOTHING


def _row_chance(row):
    if row:
        return row[0][1]
    return NOTHING


def chances_told(table):
    """The chances of the numbers of what surely is a closed table without arguments."""
    return tuple([_row_chance(row) for row in table])


def chances(table):
    """The tuple of the chances of the numbers of a table of a kind without arguments."""
    if not isinstance(table, tuple) or not is_kind(("num", len(table))):
        raise BadTable("no table of a kind without arguments")
    check_table(("num", len(table)), table)
    return chances_told(table)


def number_table(number, k):
    """The table of the number."""
    if not is_number_of(number, k):
        raise BadNumber("no number of so many")
    return tuple([(((), ALL),) if at == number else () for at in range(k)])


def never_table(kind):
    """The table of this kind without points."""
    check_kind(kind)
    return ((),) * arguments_and_answer(kind)[1]


def own_table(kind):
    """The table of the function that gives back what it is handed, of this kind."""
    check_kind(kind)
    if not is_kind(("to", kind, kind)):
        raise BadKind("a function of this kind to this kind has more than 12 nums")
    store = Store()
    return store.told(store.fun_table(store.name_table(0, kind, 1)))


def _calls_of(thing, point):
    return len([call for call in point if call[0] == thing])


def by_things(kind, table):
    """The list of pairs of the fewest and the most calls of each own thing in one point."""
    check_kind(kind)
    check_table(kind, table)
    points = _all_points(table)
    found = []
    for thing in range(len(arguments_and_answer(kind)[0])):
        many = [_calls_of(thing, point) for point in points]
        found.append((min(many, default=0), max(many, default=0)))
    return found
