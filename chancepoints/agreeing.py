"""Whether two programs are alike by a manner, and whether two manners agree on a program."""

from math import comb

from chancepoints.asking import asked_rows, check_manner, check_plain, check_plain_program, ways_of
from chancepoints.errors import BadKind, BadSure, TooMany
from chancepoints.kinding import kind_for
from chancepoints.products import difference, parting_value, put
from chancepoints.terms import check_program
from chancepoints.weights import ALL, multiplied, subtracted, total

MOST_PRODUCTS = 4000


def alike_by(one, other, manner):
    """Whether two programs of one plain kind have the same chances if run by this manner."""
    check_program(one)
    check_program(other)
    kind = kind_for(one, {})
    if kind_for(other, {}) != kind:
        raise BadKind("the programs have unlike kinds")
    check_plain(kind)
    check_manner(manner)
    return asked_rows(one, manner) == asked_rows(other, manner)


def _places_of(ways):
    """For each thing the list of the places of its numbers in powers."""
    found = []
    first = 0
    for many in ways:
        found.append([first + number for number in range(many)])
        first += many
    return found


def _products_of(row, places):
    """A row of asked as a sum of products of the chances that things come to their numbers."""
    found = {}
    for point in row:
        powers = [0] * sum([len(own) for own in places])
        for thing, _, number in point:
            powers[places[thing][number]] += 1
        found[tuple(powers)] = row[point]
    return found


def _rest_powers(places, many):
    """The list of pairs (powers by place, worth) of 1 less what has these places, to a power."""
    if not places:
        return [({}, 1)]
    found = []
    for power in range(many + 1):
        worth = comb(many, power)
        if power > 2 * (power // 2):
            worth = -worth
        for powers, factor in _rest_powers(places[1:], many - power):
            found.append(({**powers, places[0]: power}, worth * factor))
    return found


def _spelt(products, places):
    """The sum in which the chance of the last number of a thing is 1 less those of the others."""
    last = places[-1]
    found = {}
    for powers in products:
        many = powers[last]
        if comb(many + len(places) - 1, many) > MOST_PRODUCTS:
            raise TooMany(MOST_PRODUCTS)
        for rest, factor in _rest_powers(places[:-1], many):
            made = [power + rest.get(place, 0) for place, power in enumerate(powers)]
            made[last] = 0
            put(found, tuple(made), multiplied(products[powers], (factor, 1)))
        if len(found) > MOST_PRODUCTS:
            raise TooMany(MOST_PRODUCTS)
    return found


def _check_agreeing(program, one, other, sure):
    check_plain_program(program)
    check_manner(one)
    check_manner(other)
    if sure is not True and sure is not False:
        raise BadSure("neither True nor False")


def _first_difference(program, one, other, sure):
    """The first sum of products, unlike nothing, by which a row differs; None if there is none."""
    places = _places_of(ways_of(kind_for(program, {})))
    for row, opposite in zip(asked_rows(program, one), asked_rows(program, other)):
        found = difference(_products_of(row, places), _products_of(opposite, places))
        if sure:
            for own in places:
                found = _spelt(found, own)
        if found:
            return found
    return None


def agree(program, one, other, sure=False):
    """Whether a program has the same chances by two manners, whatever draws it is handed."""
    _check_agreeing(program, one, other, sure)
    return _first_difference(program, one, other, sure) is None


def parting(program, one, other, sure=False):
    """None if the manners agree; otherwise the weights of draws that part them."""
    _check_agreeing(program, one, other, sure)
    products = _first_difference(program, one, other, sure)
    if products is None:
        return None
    found = []
    for own in _places_of(ways_of(kind_for(program, {}))):
        weights = []
        for place in own:
            if sure and place == own[-1]:
                weights.append(subtracted(ALL, total(weights)))
                continue
            worth, products = parting_value(products, place, (1, len(own)))
            weights.append(worth)
        found.append(tuple(weights))
    return tuple(found)
