"""What has the same chances in every surrounding, and what parts of programs are alike."""

from chancepoints.errors import BadExpression, BadKind, BadProgram, BadSurrounding
from chancepoints.kinding import kind_for, kinds_in
from chancepoints.kinds import check_kind, is_num
from chancepoints.nodes import binds_at, is_shaped
from chancepoints.tables import check_table
from chancepoints.telling import Telling
from chancepoints.terms import all_parts, chain_to, check_program, exchanged_at, is_program, with_free
from chancepoints.weights import NOTHING

PLACE = "h"


def _is_surrounding(kind, value):
    return is_shaped(value) and is_num(kind_for(value, {PLACE: kind}))


def check_surrounding(kind, value):
    """Raise BadSurrounding unless value is a surrounding of what surely is a kind."""
    if not _is_surrounding(kind, value):
        raise BadSurrounding("no surrounding of the kind")


def is_surrounding(kind, value):
    """Whether any value is a surrounding of this kind."""
    check_kind(kind)
    return _is_surrounding(kind, value)


def put_in(kind, surrounding, program):
    """The program that comes if the program is put into the surrounding."""
    check_kind(kind)
    check_surrounding(kind, surrounding)
    if not is_program(program) or kind_for(program, {}) != kind:
        raise BadProgram("no program of the kind")
    made = with_free(surrounding, PLACE, program)
    if not is_shaped(made):
        raise BadExpression("too large")
    return made


def chances_in(kind, surrounding, table):
    """The chances of the numbers of the surrounding if a thing with this table is put in."""
    check_kind(kind)
    check_surrounding(kind, surrounding)
    check_table(kind, table)
    telling = Telling()
    # What is put in has this table wherever it stands, so no table with a call of it is made.
    made = telling.table_of(surrounding, {PLACE: (None, telling.closed_table(table, kind))})
    rows = telling.store.tables[made][1]
    return tuple([row[0][1] if row else NOTHING for row in rows])


def tables_of_both(one, other):
    """The store of the tables of two programs of one kind, and the numbers of both."""
    check_program(one)
    check_program(other)
    if kind_for(one, {}) != kind_for(other, {}):
        raise BadKind("the programs have unlike kinds")
    telling = Telling()
    first = telling.table_of(one, {})
    return telling.store, first, telling.table_of(other, {})


def alike(one, other):
    """Whether the tables of two programs of one kind are equal."""
    _, first, second = tables_of_both(one, other)
    return first == second


def _least_unlike(store, one, other):
    """The least point at which two kept rows differ, and its weights; None if they are equal."""
    weights = {point: part for point, part in one}
    others = {point: part for point, part in other}
    found = []
    for point in sorted(set(weights) | set(others)):
        pair = (weights.get(point, NOTHING), others.get(point, NOTHING))
        if pair[0] != pair[1]:
            found.append((store.told_point(point), pair))
    return min(found, key=lambda item: item[0], default=None)


def first_unlike(one, other):
    """None if two programs of one kind are alike; else where their tables first differ."""
    store, first, second = tables_of_both(one, other)
    rows, opposites = store.tables[first][1], store.tables[second][1]
    for number, (row, opposite) in enumerate(zip(rows, opposites)):
        least = _least_unlike(store, row, opposite)
        if least is not None:
            return (number, least[0], least[1])
    return None


def _names_around(program, path, kinds):
    """The dict from the names bound around what is at path to their kinds."""
    chain = chain_to(program, path)
    found = {}
    for (at, node), (inner, _) in zip(chain, chain[1:]):
        if binds_at(node, inner[len(at):]):
            found[node[1]] = node[2] if node[0] == "fun" else kinds[at + (2,)]
    return found


def exchanged(program, path, part):
    """The program with part in the place at path, and whether it is alike to program."""
    check_program(program)
    chain_to(program, path)
    kinds = kinds_in(program, {})
    around = _names_around(program, path, kinds)
    if not is_shaped(part) or kind_for(part, around) != kinds[path]:
        raise BadExpression("no expression of the kind that the part there has")
    made = exchanged_at(program, path, part)
    if not is_shaped(made):
        raise BadExpression("too large")
    telling = Telling()
    before = telling.table_of(program, {})
    return made, telling.table_of(made, {}) == before


def lines(program):
    """The dict from all paths in a program to the size of the table of what is there."""
    check_program(program)
    telling = Telling()
    found = telling.tables_of(program, {})
    return {path: telling.store.table_sizes[found[path]] for path in sorted(found)}


def _binders(program, path):
    """The tuple of the paths of the nodes that bind things around what is at path."""
    chain = chain_to(program, path)
    found = []
    for (at, node), (inner, _) in zip(chain, chain[1:]):
        if binds_at(node, inner[len(at):]):
            found.append(at)
    return tuple(found)


def alike_parts(program):
    """The ascending list of pairs of paths of parts that may stand in the place of one another."""
    check_program(program)
    tables = Telling().tables_of(program, {})
    kinds = kinds_in(program, {})
    lots = {}
    for path, _ in all_parts(program):
        lots.setdefault((_binders(program, path), tables[path]), []).append(path)
    found = []
    for lot in lots.values():
        for at, path in enumerate(lot):
            for other in lot[at + 1:]:
                if kinds[path] == kinds[other]:
                    found.append((path, other))
    return sorted(found)
