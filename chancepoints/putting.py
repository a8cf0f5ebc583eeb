"""Tables put together: one handed to another one, and several mixed."""

from chancepoints.errors import BadKind, BadTables, BadWeights
from chancepoints.handing import Handing
from chancepoints.judging import is_list
from chancepoints.kinds import arguments_and_answer, check_kind
from chancepoints.stores import RowSum, Store
from chancepoints.tables import check_table, is_closed_table
from chancepoints.weights import is_chance_part, multiplied


def handed(kind, table, argument):
    """The table of a thing with this table of kind that is handed one with the other table."""
    check_kind(kind)
    if kind[0] != "to":
        raise BadKind("a number is handed nothing")
    check_table(kind, table)
    check_table(kind[1], argument)
    store = Store()
    one = store.take_in(table, kind, ())
    other = store.take_in(argument, kind[1], ())
    return store.told(Handing(store).handed(one, 0, other))


def _check_tables(kind, many, tables):
    if not is_list(tables) or len(tables) != many:
        raise BadTables("no list of as many tables as weights")
    if not all([is_closed_table(kind, table) for table in tables]):
        raise BadTables("no list of closed tables of the kind")


def _mixed_row(store, number, weights, tables):
    """The kept row of this number of kept tables that are mixed by weights."""
    found = RowSum(store)
    for share, table in zip(weights, tables):
        if share[0] > 0:
            for point, part in store.tables[table][1][number]:
                found.put(point, multiplied(share, part))
    return found.row()


def mixed(kind, weights, tables):
    """The table whose weights are the sums of those of the tables, each by its own weight."""
    check_kind(kind)
    if not is_list(weights) or not all([is_chance_part(part) for part in weights]):
        raise BadWeights("no list of weights from nothing on")
    _check_tables(kind, len(weights), tables)
    store = Store()
    kept = [store.take_in(table, kind, ()) for table in tables]
    given, k = arguments_and_answer(kind)
    rows = [_mixed_row(store, number, weights, kept) for number in range(k)]
    made = store.table_number(len(given), tuple(rows))
    store.check_size(made)
    return store.told(made)
