"""Sums of products of powers: dicts from tuples of powers to weights, none of them nothing."""

from chancepoints.weights import ALL, NOTHING, added, multiplied, shortened


def put(products, powers, worth):
    """Add a product to a sum of such; what comes to nothing is left out."""
    came = added(products.get(powers, NOTHING), worth)
    if came == NOTHING:
        products.pop(powers, None)
    else:
        products[powers] = came


def difference(one, other):
    """One sum of products less the other."""
    found = {powers: one[powers] for powers in one}
    for powers in other:
        top, bottom = other[powers]
        put(found, powers, (-top, bottom))
    return found


def powered(worth, many):
    """A weight to a power, a whole from 0 on."""
    found = ALL
    square = worth
    while many > 0:
        half = many // 2
        if many > 2 * half:
            found = multiplied(found, square)
        square = multiplied(square, square)
        many = half
    return found


def with_value(products, place, worth):
    """The sum in which the weight stands in the place of what has its power there."""
    kept = {}
    found = {}
    for powers in products:
        many = powers[place]
        if many not in kept:
            kept[many] = powered(worth, many)
        left = powers[:place] + (0,) + powers[place + 1:]
        put(found, left, multiplied(products[powers], kept[many]))
    return found


def parting_value(products, place, most):
    """The pair of a weight above nothing, up to most, and the sum with it in this place.

    The sum is unlike nothing with it, as products is.
    """
    bottom = 1
    while True:
        # For so many weights at most as the greatest power there tells it is nothing.
        for top in range(1, bottom + 1):
            worth = multiplied(most, shortened(top, bottom))
            made = with_value(products, place, worth)
            if made:
                return worth, made
        bottom += 1
