"""Tries: what programs come to if they are run again and again."""

from math import comb

from chancepoints.alike import PLACE, check_surrounding
from chancepoints.errors import BadChances, BadExpression, BadNumber, BadWeight, TooMany
from chancepoints.judging import is_whole, is_within
from chancepoints.kinding import kind_for
from chancepoints.kinds import MOST_NUMBERS, check_kind
from chancepoints.nodes import LETTERS, measured
from chancepoints.products import powered
from chancepoints.weights import (
    ALL, NOTHING, added, is_chance_part, is_weight, lies_below, multiplied, shortened, subtracted, total,
)

MOST_TRIES = 40
MOST_COUNTED = 8
MOST_NODES_COUNTED = 90
MOST_LEVELS_COUNTED = 40
HALF = (1, 2)
ANSWERS = ("num", 2)


def _is_chance(value):
    return is_chance_part(value) and not lies_below(ALL, value)


class Tries:
    """How many of all equally likely ways what happens with a chance happens so often, out of tries."""

    def __init__(self, chance, tries):
        top, bottom = chance
        left = bottom - top
        self.all_ways = 1
        rises = [1]
        falls = [1]
        for _ in range(tries):
            self.all_ways *= bottom
            rises.append(rises[-1] * top)
            falls.append(falls[-1] * left)
        ways = 0
        self.ways_from = [0]
        for often in range(tries, -1, -1):
            ways += comb(tries, often) * rises[often] * falls[tries - often]
            self.ways_from.append(ways)
        self.ways_from = list(reversed(self.ways_from))

    def at_least(self, bar):
        """The chance that it happens so often, or oftener."""
        if bar >= len(self.ways_from):
            return NOTHING
        return shortened(self.ways_from[bar], self.all_ways)


def at_least(chance, tries, bar):
    """The chance that what happens with this chance happens bar times or more, out of tries."""
    if not _is_chance(chance):
        raise BadWeight("no weight from nothing to all")
    if not is_within(tries, 0, MOST_TRIES):
        raise BadNumber("tries are no whole from 0 to 40")
    if not is_within(bar, 0, MOST_TRIES + 1):
        raise BadNumber("the bar is no whole from 0 to 41")
    return Tries(chance, tries).at_least(bar)


def _check_wish(one, other, wish):
    if not _is_chance(one):
        raise BadWeight("the first chance is no weight from nothing to all")
    if not _is_chance(other) or one == other:
        raise BadWeight("the other chance is no weight from nothing to all unlike the first one")
    if not is_weight(wish) or not lies_below(NOTHING, wish) or not lies_below(wish, HALF):
        raise BadWeight("the wish is no weight between nothing and a half")


def _is_enough(great, small, bar, wish):
    """Whether the bar tells both by as much as is wished; great and small are their tries."""
    if lies_below(great.at_least(bar), subtracted(ALL, wish)):
        return False
    return not lies_below(wish, small.at_least(bar))


def least_tries(one, other, wish):
    """The pair of the fewest tries, and the least bar with them, that tell both chances apart."""
    _check_wish(one, other, wish)
    low, high = (one, other) if lies_below(one, other) else (other, one)
    for tries in range(1, MOST_TRIES + 1):
        great = Tries(high, tries)
        small = Tries(low, tries)
        for bar in range(1, tries + 1):
            if _is_enough(great, small, bar, wish):
                return tries, bar
    raise TooMany(MOST_TRIES)


def _least_whole(weight):
    """The least whole that is not below a weight."""
    return -(-weight[0] // weight[1])


def enough_tries(one, other, wish):
    """The pair of tries and a bar that surely tell both chances apart."""
    _check_wish(one, other, wish)
    apart = subtracted(one, other)
    top, bottom = multiplied(wish, multiplied(apart, apart))
    tries = _least_whole((bottom, top))
    return tries, _least_whole(multiplied((tries, 1), multiplied(HALF, added(one, other))))


def _check_counting(number, many, tries, bar):
    if not is_whole(number) or not 0 <= number < many:
        raise BadNumber("no number that may come")
    if not is_within(tries, 1, MOST_COUNTED):
        raise BadNumber("tries are no whole from 1 to 8")
    if not is_within(bar, 1, tries):
        raise BadNumber("the bar is no whole from 1 to tries")


def _counter(bar, others):
    """An expression that runs what count stands for until it came to 1 bar times, or to 0 others times.

    What is done behind each pair of counts is bound to a name of its own, and handed just once:
    it is run wherever its name stands. So parts that lead to the same counts are written once.
    """
    names = {}
    for one in range(bar):
        for other in range(others):
            names[(one, other)] = ("name", "c" + LETTERS[len(names)])
    made = {}
    for one, other in names:
        lost = names.get((one, other + 1), ("number", 0, 2))
        won = names.get((one + 1, other), ("number", 1, 2))
        made[(one, other)] = ("case", ("name", "count"), (lost, won))
    counter = made[(0, 0)]
    for counts in sorted(names)[1:]:
        counter = ("call", ("fun", names[counts][1], ANSWERS, counter), made[counts])
    return counter


def counting(kind, surrounding, number, tries, bar):
    """The surrounding that runs the other one until it is told whether number comes bar times."""
    check_kind(kind)
    check_surrounding(kind, surrounding)
    many = kind_for(surrounding, {PLACE: kind})[1]
    _check_counting(number, many, tries, bar)
    nodes, levels = measured(surrounding)
    if nodes > MOST_NODES_COUNTED or levels > MOST_LEVELS_COUNTED:
        raise BadExpression("the surrounding is too large")
    ways = [("number", 1 if at == number else 0, 2) for at in range(many)]
    counter = ("fun", "count", ANSWERS, _counter(bar, tries - bar + 1))
    return ("call", counter, ("case", surrounding, tuple(ways)))


def _check_chances(chances):
    if not isinstance(chances, tuple) or not 1 <= len(chances) <= MOST_NUMBERS:
        raise BadChances("no tuple of 1 to 6 weights")
    if not all([is_chance_part(part) for part in chances]) or lies_below(ALL, total(chances)):
        raise BadChances("no weights from nothing on with a sum up to all")


def _first_to(chance, bar, other, least):
    """The chance that one thing happens bar times before another one does so least times.

    chance and other are their chances in one try.
    """
    found = NOTHING
    for often in range(least):
        ways = multiplied((comb(bar - 1 + often, often), 1), powered(other, often))
        found = added(found, ways)
    return multiplied(found, powered(chance, bar))


def counted(chances, number, tries, bar):
    """The pair of the chances of 0 and 1 of counting, if the surrounding has these chances."""
    _check_chances(chances)
    _check_counting(number, len(chances), tries, bar)
    wanted = chances[number]
    others = subtracted(total(chances), wanted)
    least = tries - bar + 1
    return _first_to(others, least, wanted, bar), _first_to(wanted, bar, others, least)
