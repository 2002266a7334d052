"""How many pairs of tables there are of each kind, and which kinds."""

from boughwebs.checks import is_number_to
from boughwebs.errors import BadNumber, TooMany
from boughwebs.pairmaps import maps_of_pair_kinds
from boughwebs.pairs import check_pair_kind, sizes_of_name, sizes_of_names
from boughwebs.polys import all_bare
from boughwebs.solving import count_whole_over, to_power
from boughwebs.tables import check_prime

GREATEST_SIZE = 4
MOST_KINDS = 5000


def _count_self_maps(prime, kind):
    often = {}
    for name in kind:
        often[name] = often.get(name, 0) + 1
    many = maps_of_pair_kinds(kind, kind)
    found = 1
    for name, number in often.items():
        degree = len(name[1]) - 1 if name[0] == "turn" else 1
        many -= degree * number * number
        found = found * count_whole_over(to_power(prime, degree), number)
    return found * to_power(prime, many)


def self_maps(prime, kind):
    """How many maps with an inverse a pair of this kind has to itself."""
    check_prime(prime)
    check_pair_kind(prime, kind)
    return _count_self_maps(prime, kind)


def many_of_kind(prime, kind):
    """How many pairs of tables are of this kind."""
    found = self_maps(prime, kind)
    one, other = sizes_of_names(kind)
    return count_whole_over(prime, one) * count_whole_over(prime, other) // found


def _check_sizes(sizes):
    if not isinstance(sizes, tuple) or len(sizes) != 2:
        raise BadNumber("sizes")
    if not all([is_number_to(size, GREATEST_SIZE) for size in sizes]):
        raise BadNumber("sizes")


def _check_kinds(many):
    if many > MOST_KINDS:
        raise TooMany(MOST_KINDS)


def _regular_names(prime, size):
    """The names of turns and fars of at most this size."""
    found = [("far", e) for e in range(1, size + 1)]
    for degree in range(1, size + 1):
        for poly in all_bare(prime, degree):
            found = found + [("turn", poly, e) for e in range(1, size // degree + 1)]
    return found


def _lone_names(sizes):
    """The names of ups and downs of at most these sizes."""
    one, other = sizes
    found = [("up", k) for k in range(min(one, other - 1) + 1)]
    return found + [("down", k) for k in range(min(one - 1, other) + 1)]


def _sums_of_names(names, sizes):
    """All lists of these names, each as often as it may be, whose sizes have these sums, by the sums up to these."""
    found = {(0, 0): [()]}
    for name in names:
        more, less = sizes_of_name(name)
        for one in range(more, sizes[0] + 1):
            for other in range(less, sizes[1] + 1):
                ahead = found.get((one - more, other - less), [])
                if ahead:
                    found[one, other] = found.get((one, other), []) + [some + (name,) for some in ahead]
    return found


def _all_kinds(prime, sizes):
    least = min(sizes)
    # So many monic polynomials of this degree make unlike pairs.
    _check_kinds(to_power(prime, least))
    lone = _sums_of_names(_lone_names(sizes), sizes)
    regular = _sums_of_names(_regular_names(prime, least), (least, least))
    found = []
    for size in range(least + 1):
        for some in lone.get((sizes[0] - size, sizes[1] - size), []):
            found = found + [tuple(sorted(some + more)) for more in regular.get((size, size), [])]
            _check_kinds(len(found))
    return sorted(found)


def kinds_of_sizes(prime, sizes):
    """The ascending list of all kinds with these sizes."""
    check_prime(prime)
    _check_sizes(sizes)
    return _all_kinds(prime, sizes)


def common_kind(prime, sizes):
    """The kind of these sizes of which there are most, the least of these."""
    check_prime(prime)
    _check_sizes(sizes)
    # The fewer maps with an inverse a pair has to itself, the more pairs are alike to it.
    _, kind = min([(_count_self_maps(prime, kind), kind) for kind in _all_kinds(prime, sizes)])
    return kind
