"""Maps between pairs, told by their names; pairs told apart; the tables of a pair mixed."""

from boughwebs.checks import is_number
from boughwebs.errors import BadFour, OtherNet
from boughwebs.maps import behind, map_back
from boughwebs.pairforms import kind_of_pair, split_pair
from boughwebs.pairs import check_least_name, check_pair, check_pair_kind, pair_net, sizes_of_name, sizes_of_names
from boughwebs.polys import all_bare, made_monic, plus_times, power_of, product_of
from boughwebs.roots import pair_value
from boughwebs.solving import inverse_of
from boughwebs.tables import check_prime, plus, scaled
from boughwebs.webs import Web


def maps_of_names(one, other):
    """How many maps lead from the least pair of one name to that of the other."""
    first, second = one[0], other[0]
    if first == "up":
        if second == "up":
            return max(0, other[1] - one[1] + 1)
        return one[1] + other[1] if second == "down" else sizes_of_name(other)[0]
    if second == "down":
        return max(0, one[1] - other[1] + 1) if first == "down" else sizes_of_name(one)[0]
    if first == second == "far":
        return min(one[1], other[1])
    if first == second == "turn" and one[1] == other[1]:
        return (len(one[1]) - 1) * min(one[2], other[2])
    return 0


def least_maps(prime, one, other):
    """How many maps lead from the least pair of one name to that of the other."""
    check_prime(prime)
    check_least_name(prime, one)
    check_least_name(prime, other)
    return maps_of_names(one, other)


def maps_of_pair_kinds(one, other):
    """The sum over all pairs of names."""
    return sum([maps_of_names(first, second) for first in one for second in other])


def kind_maps(prime, one, other):
    """How many maps lead from a pair of the one kind to one of the other."""
    check_prime(prime)
    check_pair_kind(prime, one)
    check_pair_kind(prime, other)
    return maps_of_pair_kinds(one, other)


def kind_joinings(prime, one, other):
    """How many joinings there are of a pair of the one kind to one of the other."""
    many = kind_maps(prime, one, other)
    return many - pair_value(pair_net(), sizes_of_names(one), sizes_of_names(other))


def check_pairs(one, other):
    """NotPair for what are no pairs, OtherNet unless both are of one prime."""
    check_pair(one)
    check_pair(other)
    if one.prime != other.prime:
        raise OtherNet("the pairs are not of one prime")


def _polys_of(names):
    """The polynomials of the turns among the names."""
    return [name[1] for name in names if name[0] == "turn"]


def _count_downs(names):
    return len([name for name in names if name[0] == "down"])


def _turns_to_try(prime, size, one, other):
    """The turns of this size into which there may be unlike numbers of maps from pairs of these kinds, ascending.

    Those with a polynomial that is in neither kind all tell no more than how many downs there are:
    of each degree the least one will do. Where these were alike at all lesser sizes, the kinds have so
    many polynomials that few degrees are left to come to.
    """
    known = _polys_of(one + other)
    found = {}
    for degree in range(1, size + 1):
        if size % degree == 0:
            some = [poly for poly in known if len(poly) - 1 == degree]
            if _count_downs(one) != _count_downs(other):
                some = some + [poly for poly in all_bare(prime, degree) if poly not in known][:1]
            for poly in some:
                found["turn", poly, size // degree] = True
    return sorted(found)


def _names_of_sum(prime, total, one, other):
    """The names to try of least pairs whose sizes have this sum, ascending."""
    if total & 1:
        return [("down", total // 2), ("up", total // 2)]
    return [("far", total // 2)] + _turns_to_try(prime, total // 2, one, other)


def parted_by(one, other):
    """The least name with unlike numbers of maps into the two pairs, and these; None if they are alike."""
    check_pairs(one, other)
    first, second = kind_of_pair(one), kind_of_pair(other)
    if first == second:
        return None
    for total in range(1, max(sum(one.sizes), sum(other.sizes)) + 1):
        for name in _names_of_sum(one.prime, total, first, second):
            many, more = maps_of_pair_kinds((name,), first), maps_of_pair_kinds((name,), second)
            if many != more:
                return (name, many, more)
    return None


def alike_by(one, other):
    """A map with an inverse from one pair to the other; None if there is none."""
    check_pairs(one, other)
    first, coordinates = split_pair(one)
    second, others = split_pair(other)
    return behind(tuple(coordinates), map_back(others)) if first == second else None


def _check_four(prime, four):
    if not isinstance(four, tuple) or len(four) != 4 or not all([is_number(number) for number in four]):
        raise BadFour("a tuple of four numbers is wanted")
    a, b, c, d = four
    if (a * d - b * c) % prime == 0:
        raise BadFour("the numbers cannot be mixed with")


def mixed(web, four):
    """The pair whose tables are sums of multiples of those of the web."""
    check_pair(web)
    _check_four(web.prime, four)
    first, second = web.tables
    a, b, c, d = four
    tables = [plus(scaled(first, a), scaled(second, b)), plus(scaled(first, c), scaled(second, d))]
    return Web(web.net, web.prime, web.sizes, tables)


def _mixed_poly(prime, poly, four):
    """The polynomial of the mixed roots: y for which c - a y is b y - d, so many times a root; a number if none is."""
    a, b, c, d = four
    above, below = (c % prime, (0 - a) % prime), ((0 - d) % prime, b % prime)
    found = ()
    for k, number in enumerate(poly):
        more = product_of(prime, power_of(prime, above, k), power_of(prime, below, len(poly) - 1 - k))
        found = plus_times(prime, found, more, number)
    return made_monic(prime, found)


def _mixed_name(prime, name, four):
    if name[0] == "turn":
        poly = _mixed_poly(prime, name[1], four)
        return ("far", name[2]) if len(poly) == 1 else ("turn", poly, name[2])
    if name[0] == "far" and four[1] % prime:
        root = four[3] * inverse_of(four[1], prime)
        return ("turn", ((0 - root) % prime, 1), name[1])
    return name


def mixed_kind(prime, kind, four):
    """The kind of a mixed pair of this kind."""
    check_prime(prime)
    check_pair_kind(prime, kind)
    _check_four(prime, four)
    return tuple(sorted([_mixed_name(prime, name, four) for name in kind]))


def _turned_name(name):
    if name[0] == "up":
        return ("down", name[1])
    return ("up", name[1]) if name[0] == "down" else name


def turned_kind(prime, kind):
    """The kind of a pair of this kind with both tables across."""
    check_prime(prime)
    check_pair_kind(prime, kind)
    return tuple(sorted([_turned_name(name) for name in kind]))
