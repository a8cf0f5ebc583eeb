"""Programs that are run by a manner, handed numbers of which nothing is known."""

from chancepoints.coding import code_of
from chancepoints.errors import BadKind, BadManner, TooMany
from chancepoints.kinding import kind_for
from chancepoints.kinds import arguments_and_answer, check_kind, is_num
from chancepoints.machine import MANNERS, machine_of
from chancepoints.tables import check_table
from chancepoints.terms import check_program
from chancepoints.weights import NOTHING, added

MOST_PAIRS = 4000


def check_plain(kind):
    """Raise BadKind unless what surely is a kind is plain."""
    if not all([is_num(part) for part in arguments_and_answer(kind)[0]]):
        raise BadKind("not all arguments are nums")


def check_plain_program(program):
    """Raise BadProgram unless program is one, BadKind unless its kind is plain."""
    check_program(program)
    check_plain(kind_for(program, {}))


def check_manner(manner):
    """Raise BadManner unless manner is one of the three words."""
    if manner not in MANNERS:
        raise BadManner("none of the three words")


def ways_of(kind):
    """The list that tells to how many numbers each argument of a plain kind may come."""
    return [part[1] for part in arguments_and_answer(kind)[0]]


def asked_rows(program, manner):
    """The list of the rows of asked, as dicts from points to weights; by manner surely told."""
    kind = kind_for(program, {})
    ways = ways_of(kind)
    rows = machine_of(code_of(program), manner, arguments_and_answer(kind)[1], ways).ends
    if manner == "value":
        return _spread_rows(rows, ways)
    return rows


def _told_rows(rows):
    """The table with rows that are told by dicts from points to weights."""
    return tuple([tuple([(point, row[point]) for point in sorted(row)]) for row in rows])


def _put(row, point, worth):
    row[point] = added(row.get(point, NOTHING), worth)


def asked(program, manner):
    """The table of a program of a plain kind that is run by this manner."""
    check_plain_program(program)
    check_manner(manner)
    return _told_rows(asked_rows(program, manner))


def _folded_point(point):
    """The point with one of like calls left; None if a thing comes to two unlike numbers."""
    numbers = {}
    for thing, _, number in point:
        if numbers.setdefault(thing, number) != number:
            return None
    return tuple([(thing, (), numbers[thing]) for thing in sorted(numbers)])


def _folded_rows(table):
    rows = []
    for told in table:
        row = {}
        for point, worth in told:
            left = _folded_point(point)
            if left is not None:
                _put(row, left, worth)
        rows.append(row)
    return rows


def _check_of_plain(kind, table):
    check_kind(kind)
    check_plain(kind)
    check_table(kind, table)


def folded(kind, table):
    """The table in whose points each thing is called once, and comes to one number."""
    _check_of_plain(kind, table)
    return _told_rows(_folded_rows(table))


def _spread_point(point, ways):
    """The list of the points with just one more call of each thing that the point does not call."""
    called = {call[0]: True for call in point}
    found = [point]
    for thing, many in enumerate(ways):
        if thing not in called:
            found = [inner + ((thing, (), number),) for inner in found for number in range(many)]
            if len(found) > MOST_PAIRS:
                raise TooMany(MOST_PAIRS)
    return [tuple(sorted(inner)) for inner in found]


def _spread_rows(rows, ways):
    """The rows in which each point is exchanged for all those that come of it."""
    found = []
    pairs = 0
    for row in rows:
        made = {}
        for point in row:
            for inner in _spread_point(point, ways):
                _put(made, inner, row[point])
            if pairs + len(made) > MOST_PAIRS:
                raise TooMany(MOST_PAIRS)
        pairs += len(made)
        found.append(made)
    return found


def spread(kind, table):
    """The folded table in whose points each thing is called."""
    _check_of_plain(kind, table)
    return _told_rows(_spread_rows(_folded_rows(table), ways_of(kind)))
