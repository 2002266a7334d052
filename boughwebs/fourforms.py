"""Fours split into least ones, and maps between them told by names."""

from boughwebs.errors import NotSo, TooMany
from boughwebs.fourblocks import regular_pieces
from boughwebs.fourlines import are_four_names, check_four, check_four_kind, check_four_name, four_net, plain_four
from boughwebs.fourlines import sizes_of_four, sizes_of_four_kind, sum_of_four_names
from boughwebs.fourparts import parted_four
from boughwebs.foursteps import LINES
from boughwebs.maps import leads_back
from boughwebs.roots import pair_value
from boughwebs.solving import inverse_of
from boughwebs.tables import Table, check_prime
from boughwebs.vectors import combined, exchanged, inverse_columns

GREATEST_SUM = 24


def _check_few(web):
    check_four(web)
    if sum(web.sizes) > GREATEST_SUM:
        raise TooMany(GREATEST_SUM)


def _led_pieces(prime, chart, pieces):
    """The pieces of a rest, led on by the columns of its chart."""
    found = []
    for name, rooms in pieces:
        wides = [len(columns[0]) if columns else 0 for columns in chart]
        found.append((name, [[combined(prime, columns, column, wide) for column in some]
                             for columns, wide, some in zip(chart, wides, rooms)]))
    return found


def _late_pieces(prime, four):
    """All pieces of a plain four without early ones.

    The lines of its late pieces and of the rest make whole tables: the columns of their inverses are those of all.
    """
    pieces, (_, regular, lines) = parted_four(prime, "late", four)
    if not pieces:
        return regular_pieces(prime, four)
    backs = []
    for place in range(LINES + 1):
        told = lines[place] + [line for _, _, chart in pieces for line in chart[place]]
        backs.append(inverse_columns(prime, exchanged(told, len(told))))
    ahead = [len(some) for some in lines]
    chart = [columns[:many] for columns, many in zip(backs, ahead)]
    found = _led_pieces(prime, chart, regular_pieces(prime, regular))
    for (k, i), _, told in pieces:
        rooms = []
        for place, some in enumerate(told):
            rooms.append(backs[place][ahead[place]:ahead[place] + len(some)])
            ahead[place] += len(some)
        found.append((("late", k, i), rooms))
    return found


def _pieces(web):
    """The pairs of a name and, for each room, the columns of the least four, names ascending."""
    pieces, (_, rest, chart) = parted_four(web.prime, "early", plain_four(web))
    found = _late_pieces(web.prime, rest)
    if pieces:
        found = _led_pieces(web.prime, chart, found)
    return sorted(found + [(("early", k, i), rooms) for (k, i), _, rooms in pieces])


def split_four(web):
    """The kind of the four, and coordinates in which it is sum_of_fours of it."""
    _check_few(web)
    found = _pieces(web)
    coordinates = []
    for place, size in enumerate(web.sizes):
        columns = [column for _, rooms in found for column in rooms[place]]
        lines = exchanged(inverse_columns(web.prime, columns), size)
        coordinates.append(Table(web.prime, size, size, lines))
    return (tuple([name for name, _ in found]), coordinates)


def kind_of_four(web):
    """The kind of the four."""
    _check_few(web)
    return tuple([name for name, _ in _pieces(web)])


def is_split_four(web, thing):
    """Whether thing, which may be anything, is such a pair as split_four tells."""
    check_four(web)
    if not isinstance(thing, tuple) or len(thing) != 2 or not isinstance(thing[1], list):
        return False
    kind, coordinates = thing
    if not are_four_names(web.prime, kind) or sizes_of_four_kind(kind) != web.sizes:
        return False
    # Coordinates are a map from the web to what it is changed into.
    return leads_back(web, sum_of_four_names(web.prime, kind), tuple(coordinates))


def _crossed(one, other):
    return one[0] * other[1] - one[1] * other[0]


def cross_number(web):
    """How the four lines of a plane, no two of them one, lie to one another."""
    check_four(web)
    if web.sizes != (1, 1, 1, 1, 2):
        raise NotSo("four lines in a plane are wanted")
    prime = web.prime
    a, b, c, d = [[line[0] for line in table.lines] for table in web.tables]
    for one, other in ((a, b), (a, c), (a, d), (b, c), (b, d), (c, d)):
        if _crossed(one, other) % prime == 0:
            raise NotSo("no two lines may be one, and none 0")
    below = _crossed(a, c) * _crossed(d, b)
    return _crossed(c, b) * _crossed(a, d) * inverse_of(below, prime) % prime


def _maps_of_knots(one, other):
    """As many as there are lengths of what is left of the one and is a part of the other."""
    if one[1] != other[1]:
        return 0
    return len([t for t in range(1, min(one[3], other[3]) + 1) if (one[2] + one[3] - t - other[2]) & 1 == 0])


def maps_of_fours(one, other):
    """How many maps lead from the least four of one name to that of the other."""
    first, second = one[0], other[0]
    if first == second == "knot":
        return _maps_of_knots(one, other)
    if first == second == "turn":
        return (len(one[1]) - 1) * min(one[2], other[2]) if one[1] == other[1] else 0
    many = pair_value(four_net(), sizes_of_four(one), sizes_of_four(other))
    if first == second:
        return max(0, many)
    return many if first == "early" or second == "late" else 0


def four_maps(prime, one, other):
    """How many maps lead from the least four of one name to that of the other."""
    check_prime(prime)
    check_four_name(prime, one)
    check_four_name(prime, other)
    return maps_of_fours(one, other)


def fours_maps(prime, one, other):
    """How many maps lead from a four of the one kind to one of the other."""
    check_prime(prime)
    check_four_kind(prime, one)
    check_four_kind(prime, other)
    return sum([maps_of_fours(first, second) for first in one for second in other])


def fours_joinings(prime, one, other):
    """How many joinings there are of a four of the one kind to one of the other."""
    many = fours_maps(prime, one, other)
    return many - pair_value(four_net(), sizes_of_four_kind(one), sizes_of_four_kind(other))
