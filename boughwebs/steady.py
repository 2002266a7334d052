"""Prices: what rows are worth, their slopes, and the roots whose least webs have no dear part."""

from math import gcd

from boughwebs.checks import is_number
from boughwebs.errors import BadPrices, BadRow, BadWeights
from boughwebs.nets import check_net, check_row
from boughwebs.roots import check_good, check_root, form_ahead, roots

GREATEST_PRICE = 99
GREATEST_WEIGHT = 9


def _are_numbers(net, thing, least, most):
    if not isinstance(thing, tuple) or len(thing) != net.places:
        return False
    return all([is_number(number) and least <= number <= most for number in thing])


def check_prices(net, prices):
    """BadPrices unless prices are a tuple of numbers from -99 to 99, one for each place."""
    if not _are_numbers(net, prices, 0 - GREATEST_PRICE, GREATEST_PRICE):
        raise BadPrices("numbers from -99 to 99 are wanted, one for each place")


def check_weights(net, weights):
    """BadWeights unless weights are None or a tuple of numbers from 1 to 9, one for each place."""
    if weights is not None and not _are_numbers(net, weights, 1, GREATEST_WEIGHT):
        raise BadWeights("numbers from 1 to 9 are wanted, one for each place")


def product_sum(numbers, row):
    """The sum of the products, place by place."""
    return sum([a * b for a, b in zip(numbers, row)])


def told_weights(net, weights):
    """The weights, all 1 if they are None."""
    return tuple([1] * net.places) if weights is None else weights


def worth(net, prices, row):
    """The sum of the products of the row with the prices."""
    check_net(net)
    check_prices(net, prices)
    check_row(net, row)
    return product_sum(prices, row)


def slope_of(net, prices, weights, row):
    """What slope tells, of what surely are prices, weights and a row that is not all 0."""
    above = product_sum(prices, row)
    below = product_sum(told_weights(net, weights), row)
    common = gcd(above, below)
    return (above // common, below // common)


def slope(net, prices, weights, row):
    """The row's worth by the sum of its products with the weights, without a common divisor."""
    check_net(net)
    check_prices(net, prices)
    check_weights(net, weights)
    check_row(net, row)
    if min(row) < 0 or not any(row):
        raise BadRow("numbers from 0 on are wanted, not all 0")
    return slope_of(net, prices, weights, row)


def is_lower(one, other):
    """Whether the one slope is below the other."""
    return one[0] * other[1] < other[0] * one[1]


def highest_slope(slopes):
    """The greatest of one or more slopes."""
    found = slopes[0]
    for some in slopes:
        if is_lower(found, some):
            found = some
    return found


def steady_slopes(net, prices, weights):
    """The triples (root, slope, is_firm) of all roots whose least webs are steady, ascending by sum.

    If a least web has a part that is too dear, or as dear as itself, there is a map but 0 to it from
    a steady one of a lesser sum, and no less a slope.
    """
    found = []
    for root in roots(net):
        own = slope_of(net, prices, weights, root)
        steady = firm = True
        for other, above, _ in found:
            if not is_lower(above, own) and sum(other) < sum(root) and product_sum(form_ahead(net, other), root) > 0:
                steady = steady and above == own
                firm = False
        if steady:
            found.append((root, own, firm))
    return found


def steady_roots(net, prices, weights):
    """The pairs (root, is_firm) of the roots whose least webs are steady, ascending."""
    check_good(net)
    check_prices(net, prices)
    check_weights(net, weights)
    return sorted([(root, firm) for root, _, firm in steady_slopes(net, prices, weights)])


def root_prices(net, root):
    """At each place pair_form of the root and the row with 1 there alone."""
    check_good(net)
    check_root(net, root)
    return tuple(form_ahead(net, root))
