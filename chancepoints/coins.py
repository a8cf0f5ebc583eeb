"""Programs that are handed coins, as forms: sums of products of the coins' powers."""

from math import comb, lcm

from chancepoints.errors import BadCoins, BadForm, BadKind, BadMany, BadThing
from chancepoints.judging import is_list, is_tuple_of, is_within
from chancepoints.kinding import kind_for
from chancepoints.kinds import arguments_and_answer
from chancepoints.polynomials import raised
from chancepoints.products import difference, parting_value, put
from chancepoints.telling import Telling
from chancepoints.terms import check_program
from chancepoints.weights import ALL, NOTHING, is_weight, multiplied, shortened

MOST_COINS = 6
MOST_POWER = 4000
COIN = ("num", 2)


def is_form_for(many, value):
    """Whether any value is a form for so many coins."""
    if not isinstance(value, tuple):
        return False
    ahead = None
    for pair in value:
        if not is_tuple_of(pair, 2) or not is_tuple_of(pair[0], many):
            return False
        if not all([is_within(power, 0, MOST_POWER) for power in pair[0]]):
            return False
        if not is_weight(pair[1]) or pair[1] == NOTHING or ahead is not None and ahead >= pair[0]:
            return False
        ahead = pair[0]
    return True


def is_form(many, value):
    """Whether any value is a form for so many coins."""
    if not is_within(many, 1, MOST_COINS):
        raise BadMany("no whole from 1 to 6")
    return is_form_for(many, value)


def _coins_of(form):
    """For how many coins a form is, 0 for any number of them; BadForm if it is none."""
    if form == () and isinstance(form, tuple):
        return 0
    for many in range(1, MOST_COINS + 1):
        if is_form_for(many, form):
            return many
    raise BadForm("no form")


def _is_coin_kind(kind):
    given = arguments_and_answer(kind)[0]
    return 1 <= len(given) <= MOST_COINS and all([part == COIN for part in given])


def _point_products(counts):
    """The sum of products for a point: counts is a list of pairs, how often a coin comes to 0 and 1."""
    found = {(): ALL}
    for zeros, ones in counts:
        made = {}
        for powers in found:
            for more in range(zeros + 1):
                worth = comb(zeros, more)
                if more > 2 * (more // 2):
                    worth = -worth
                made[powers + (ones + more,)] = multiplied(found[powers], (worth, 1))
        found = made
    return found


def _row_products(store, row, many):
    """The chance that a kept row tells, as a sum of products of so many coins."""
    found = {}
    for point, worth in row:
        counts = [[0, 0] for _ in range(many)]
        for call in point:
            thing, _, number = store.calls[call]
            counts[thing][number] += 1
        products = _point_products(counts)
        for powers in products:
            put(found, powers, multiplied(worth, products[powers]))
    return found


def products_of(program):
    """The list, for each number of a program of a coin kind, of its sum of products."""
    kind = kind_for(program, {})
    telling = Telling()
    rows = telling.store.tables[telling.table_of(program, {})][1]
    many = len(arguments_and_answer(kind)[0])
    return [_row_products(telling.store, row, many) for row in rows]


def form_of(products):
    """The form of a sum of products."""
    return tuple([(powers, products[powers]) for powers in sorted(products)])


def forms(program):
    """The list, for each number that comes, of the form that tells its chance for all coins."""
    check_program(program)
    if not _is_coin_kind(kind_for(program, {})):
        raise BadKind("no coin kind")
    return [form_of(products) for products in products_of(program)]


def _scaled_value(terms, coins, most):
    """The value of a form whose weights are wholes, times the bottom of each coin to its most.

    most tells the greatest power of each coin.
    """
    if not coins:
        return terms[0][1]
    top, bottom = coins[0]
    ways = {}
    for powers, whole in terms:
        ways.setdefault(powers[0], []).append((powers[1:], whole))
    found, scale, ahead = 0, 1, most[0]
    for power in sorted(ways, reverse=True):
        found *= raised(top, ahead - power)
        scale *= raised(bottom, ahead - power)
        found += scale * _scaled_value(ways[power], coins[1:], most[1:])
        ahead = power
    return found * raised(top, ahead)


def _told_value(form, coins):
    """The value of a form, not (), all that is added being brought to one bottom."""
    most = [0] * len(coins)
    bottom = 1
    for powers, worth in form:
        most = [max(one, other) for one, other in zip(most, powers)]
        bottom = lcm(bottom, worth[1])
    terms = [(pair[0], pair[1][0] * (bottom // pair[1][1])) for pair in form]
    top = _scaled_value(terms, coins, most)
    for great, coin in zip(most, coins):
        bottom *= raised(coin[1], great)
    return shortened(top, bottom)


def value(form, coins):
    """What a form tells of the coins, weights of any sign."""
    many = _coins_of(form)
    if not is_list(coins) or not 1 <= len(coins) <= MOST_COINS or many not in (0, len(coins)):
        raise BadCoins("no list of as many weights as the form is for")
    if not all([is_weight(coin) for coin in coins]):
        raise BadCoins("no list of weights")
    return NOTHING if many == 0 else _told_value(form, coins)


def slope(form, place):
    """The form of how fast a form grows with the coin at this place."""
    many = _coins_of(form)
    if not is_within(place, 0, MOST_COINS - 1) or many > 0 and place >= many:
        raise BadThing("no place of a coin of the form")
    found = []
    for powers, worth in form:
        power = powers[place]
        if power > 0:
            less = powers[:place] + (power - 1,) + powers[place + 1:]
            found.append((less, multiplied(worth, (power, 1))))
    return tuple(found)


def _unlike(one, other):
    """The list of the differences of the sums of products of two programs of one coin kind."""
    check_program(one)
    check_program(other)
    kind = kind_for(one, {})
    if kind != kind_for(other, {}) or not _is_coin_kind(kind):
        raise BadKind("not the same coin kind")
    return [difference(mine, theirs) for mine, theirs in zip(products_of(one), products_of(other))]


def alike_for_coins(one, other):
    """Whether the forms of two programs of one coin kind are equal."""
    return all([found == {} for found in _unlike(one, other)])


def _coins_unlike_nothing(products, many):
    """A list of so many coins of which a sum of products, unlike nothing, does not tell nothing."""
    coins = []
    for at in range(many):
        coin, products = parting_value(products, at, ALL)
        coins.append(coin)
    return coins


def parting_coins(one, other):
    """None, or a number and coins at which two programs have unlike chances of it."""
    found = _unlike(one, other)
    many = len(arguments_and_answer(kind_for(one, {}))[0])
    for number, products in enumerate(found):
        if products:
            return number, _coins_unlike_nothing(products, many)
    return None
