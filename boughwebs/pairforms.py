"""Pairs split into least ones, and how many chains there are."""

from boughwebs.checks import is_number_to
from boughwebs.errors import BadNumber
from boughwebs.maps import leads_back
from boughwebs.pairparts import pieces_of_pair
from boughwebs.pairs import are_pair_names, check_pair, sizes_of_names, sum_of_names
from boughwebs.solving import kernel
from boughwebs.spans import common_span, fetched_span
from boughwebs.tables import Table, columns_of, times
from boughwebs.vectors import exchanged, inverse_columns

GREATEST_MANY = 12


def _pieces(web):
    """The names of the pair's least ones, ascending, with the columns that show them in both rooms."""
    check_pair(web)
    return pieces_of_pair(web.prime, (web.sizes, columns_of(web.tables[0]), columns_of(web.tables[1])))


def split_pair(web):
    """The kind of the pair, and coordinates in which it is sum_of_kind of it."""
    found = _pieces(web)
    coordinates = []
    for room, size in enumerate(web.sizes):
        columns = [column for piece in found for column in piece[1 + room]]
        lines = exchanged(inverse_columns(web.prime, columns), size)
        coordinates.append(Table(web.prime, size, size, lines))
    return (tuple([name for name, _, _ in found]), coordinates)


def kind_of_pair(web):
    """The kind of the pair."""
    return tuple([name for name, _, _ in _pieces(web)])


def is_split_pair(web, thing):
    """Whether thing, which may be anything, is such a pair as split_pair tells."""
    check_pair(web)
    if not isinstance(thing, tuple) or len(thing) != 2 or not isinstance(thing[1], list):
        return False
    kind, coordinates = thing
    if not are_pair_names(web.prime, kind) or sizes_of_names(kind) != web.sizes:
        return False
    # Coordinates are a map from the web to what it is changed into.
    return leads_back(web, sum_of_names(web.prime, kind), tuple(coordinates))


def chain_count(web, many):
    """On how many free numbers all chains x 0 to x many hang, first leading each where second leads the next one.

    The last column of a chain is one that can be come to by so many steps, and that first leads to 0;
    two chains with the same last one differ by a chain that ends one column sooner.
    """
    check_pair(web)
    if not is_number_to(many, GREATEST_MANY):
        raise BadNumber("many")
    first, second = web.tables
    last = kernel(first)
    reached = kernel(second)
    found = common_span(last, reached).wide
    for _ in range(many):
        reached = fetched_span(second, times(first, reached))
        found += common_span(last, reached).wide
    return found
