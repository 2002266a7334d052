"""How many webs of a row there are, and how many of each kind, for all primes at once."""

from boughwebs.errors import BadKind
from boughwebs.generals import GREATEST_NUMBER, check_small_row
from boughwebs.kinds import check_kind, kind_row, maps_of_kinds
from boughwebs.nets import check_net
from boughwebs.roots import check_good
from boughwebs.tallies import tally_of_factors


def arrow_sum(net, one, other):
    """N(one, other): the sum over the arrows of one's number at the tail times other's at the head."""
    return sum([one[tail] * other[head] for tail, head in net.arrows])


def check_small_kind(net, kind):
    """BadKind unless kind is one of this good net, with a row of numbers up to 12."""
    check_kind(net, kind)
    if max(kind_row(net, kind)) > GREATEST_NUMBER:
        raise BadKind("the row has a number above 12")


def web_tally(net, row):
    """How many webs of the row there are."""
    check_net(net)
    check_small_row(net, row)
    return tuple([0] * arrow_sum(net, row, row) + [1])


def _whole_factors(numbers):
    """What x stands in as a power, and the powers of the factors, of the product of whole_tally of the numbers."""
    power = sum([number * (number - 1) // 2 for number in numbers])
    return (power, [k for number in numbers for k in range(1, number + 1)])


def _turns_factors(net, kind):
    """The same of turns_tally."""
    many = list(kind.values())
    power, factors = _whole_factors(many)
    return (power + maps_of_kinds(net, kind, kind) - sum([number * number for number in many]), factors)


def turns_tally(net, kind):
    """How many maps with an inverse a web of this kind has to itself."""
    check_good(net)
    check_small_kind(net, kind)
    power, factors = _turns_factors(net, kind)
    return tally_of_factors(power, factors, [])


def kind_tally(net, kind):
    """How many webs of its row are of this kind."""
    check_good(net)
    check_small_kind(net, kind)
    power, above = _whole_factors(kind_row(net, kind))
    less, below = _turns_factors(net, kind)
    return tally_of_factors(power - less, above, below)
