"""Tables of functions of one number: which of them are made, by the mass behind each lot."""

from chancepoints.errors import BadExpression, BadKind, NoMaker, TooMany
from chancepoints.kinds import is_kind, is_num
from chancepoints.nodes import MOST_LEVELS, MOST_NODES
from chancepoints.tables import check_table
from chancepoints.weights import ALL, NOTHING, added, divided, lies_below, subtracted, total

MOST_LOTS = 4000


def _is_lot_kind(kind):
    return is_kind(kind) and kind[0] == "to" and is_num(kind[1]) and is_num(kind[2])


class Lots:
    """The lots of a table, each told by how often each number stands in it."""

    def __init__(self, k, table):
        self.k = k
        self.weights = {}
        for number, row in enumerate(table):
            for point, part in row:
                own = self.weights.setdefault(self._lot_of(point), [NOTHING] * len(table))
                own[number] = part
        self.nothing = (NOTHING,) * len(table)
        self.masses = {}

    def _lot_of(self, point):
        counts = [0] * self.k
        for call in point:
            counts[call[2]] += 1
        return tuple(counts)

    def with_number(self, lot, number, by):
        """The lot in which a number stands more often by so much."""
        return lot[:number] + (lot[number] + by,) + lot[number + 1:]

    def _all_lots(self):
        """The list of all lots, by length."""
        first = (0,) * self.k
        found = {first: True}
        found.update({lot: True for lot in self.weights})
        waiting = list(found)
        while waiting:
            lot = waiting.pop()
            if len(found) > MOST_LOTS:
                raise TooMany(MOST_LOTS)
            for number in range(self.k):
                part = self.with_number(lot, number, -1)
                if lot[number] > 0 and part not in found:
                    found[part] = True
                    waiting.append(part)
        return sorted(found, key=sum)

    def weigh(self):
        """Work out the mass of each lot."""
        for lot in self._all_lots():
            mass = NOTHING if sum(lot) > 0 else ALL
            for number in range(self.k):
                if lot[number] > 0:
                    ahead = self.with_number(lot, number, -1)
                    mass = added(mass, subtracted(self.masses[ahead], self.answering(ahead)))
            self.masses[lot] = mass

    def weights_of(self, lot):
        """The weights of the point of a lot in all rows."""
        return self.weights.get(lot, self.nothing)

    def answering(self, lot):
        """The sum of the weights of the point of a lot."""
        return total(self.weights_of(lot))

    def told(self):
        """The list of triples (lot, mass, A), by length and then ascending."""
        found = []
        for lot in self.masses:
            numbers = [number for number, many in enumerate(lot) for _ in range(many)]
            found.append((len(numbers), tuple(numbers), self.masses[lot], self.answering(lot)))
        return [row[1:] for row in sorted(found)]

    def short(self):
        """The first triple whose mass is below its A; None if there is none."""
        for triple in self.told():
            if lies_below(triple[1], triple[2]):
                return triple
        return None


class Making:
    """Makes the program of lots none of which is short."""

    def __init__(self, lots, answers):
        self.weighed = lots
        self.answers = answers
        self.nodes = 1

    def _count(self, many, level):
        self.nodes += many
        if self.nodes > MOST_NODES or level > MOST_LEVELS:
            raise BadExpression("the program would be too large")

    def _draw(self, lot, whole, level):
        """A draw with the weights of a lot, by a whole."""
        self._count(1, level)
        return ("draw", tuple([divided(part, whole) for part in self.weighed.weights_of(lot)]))

    def _asking(self, lot, level):
        """Asks once more, and goes on behind the number that came."""
        self._count(2, level + 1)
        ways = []
        for number in range(self.weighed.k):
            ways.append(self.part(self.weighed.with_number(lot, number, 1), level + 1))
        return ("case", ("name", "x"), tuple(ways))

    def part(self, lot, level):
        """What is done behind a lot."""
        mass = self.weighed.masses.get(lot, NOTHING)
        answering = self.weighed.answering(lot)
        longer = [self.weighed.with_number(lot, number, 1) for number in range(self.weighed.k)]
        if any([way in self.weighed.masses for way in longer]):
            return self._going_on(lot, mass, answering, level)
        if answering == NOTHING:
            self._count(1, level)
            return ("never", ("num", self.answers))
        return self._draw(lot, mass, level)

    def _going_on(self, lot, mass, answering, level):
        if answering == NOTHING:
            return self._asking(lot, level)
        if answering == mass:
            return self._draw(lot, answering, level)
        self._count(2, level + 1)
        shares = (divided(answering, mass), divided(subtracted(mass, answering), mass))
        ways = (self._draw(lot, answering, level + 1), self._asking(lot, level + 1))
        return ("case", ("draw", shares), ways)


def _weighed(kind, table):
    """The lots of a table of a lot kind, with their masses."""
    if not _is_lot_kind(kind):
        raise BadKind("no lot kind")
    check_table(kind, table)
    lots = Lots(kind[1][1], table)
    lots.weigh()
    return lots


def masses(kind, table):
    """The list of triples (lot, mass, A) of all lots of a table of a lot kind."""
    return _weighed(kind, table).told()


def first_short(kind, table):
    """None if no lot is short; otherwise the first triple of masses of which the lot is."""
    return _weighed(kind, table).short()


def made(kind, table):
    """The program whose table this is."""
    lots = _weighed(kind, table)
    if lots.short() is not None:
        raise NoMaker("a lot is short, so no program has this table")
    return ("fun", "x", kind[1], Making(lots, kind[2][1]).part((0,) * lots.k, 2))
