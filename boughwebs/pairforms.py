"""Pairs split into least ones: first the ups are taken out, then, of what is left, turned across, the downs.

A *piece* is a triple: the name of a least pair, and the columns of both its rooms, lists of numbers.
"""

from boughwebs.checks import is_number_to
from boughwebs.cyclings import cyclic_parts, new_groups
from boughwebs.errors import BadNumber
from boughwebs.maps import leads_back, map_back, web_into, web_onto
from boughwebs.pairs import are_pair_names, check_pair, sizes_of_names, sum_of_names
from boughwebs.solving import inverse, kernel, left_over, solved, solved_across
from boughwebs.spans import common_span, fetched_span, pivots_of, span_of, tidied
from boughwebs.tables import Table, across, columns_of, empty, minus, plain, plus, times
from boughwebs.webs import Web

GREATEST_MANY = 12


def _table_of(prime, tall, columns):
    """The Table of these columns."""
    return Table(prime, tall, len(columns), [[column[k] for column in columns] for k in range(tall)])


def _falling_spans(first, second):
    """All columns, then, again and again, those left that second leads into what first makes of all left."""
    found = [plain(first.prime, first.wide)]
    while True:
        last = found[-1]
        more = kernel(times(left_over(times(first, last)), times(second, last)))
        if more.wide == last.wide:
            return found
        found.append(times(last, more))


def _coordinates_in(span, table):
    """The columns of the Table, which the tidy columns span, in these."""
    return Table(span.prime, span.wide, table.wide, [table.lines[k] for k in pivots_of(span)])


def _torsion(web):
    """The tidy columns, in both rooms, of all but the ups, and of the downs and turns alone.

    Of downs and turns the first table gives all in the second room, of what else is no ups the second one.
    """
    first, second = web.tables
    firm = tidied(_falling_spans(first, second)[-1])
    inner = span_of(web.prime, web.sizes[0], [firm, _falling_spans(second, first)[-1]])
    outer = span_of(web.prime, web.sizes[1], [times(first, inner), times(second, inner)])
    return ((inner, outer), (firm, tidied(times(first, firm))))


def _amends(web, torsion):
    """Two Tables, for what lacks in the second room: what second leads there, up to the firm columns, and what first.

    They take what lacks in coordinates of the torsion, and of its firm columns.
    """
    first, second = web.tables
    (inner, outer), (firm, firm_outer) = torsion
    lines = left_over(firm_outer)
    back = times(inner, solved(times(lines, times(second, inner)), times(lines, outer)))
    return (back, times(firm, solved(times(first, firm), firm_outer)))


def _amended(web, torsion, amends, chain):
    """The Tables of a chain, changed by torsion so that first leads each where second leads the one ahead.

    What lacks is torsion already. Up to firm columns it is made good from the last one on, then from the first one on.
    """
    first, second = web.tables
    found = list(chain)
    for k in range(len(found) - 2, -1, -1):
        lack = minus(times(first, found[k + 1]), times(second, found[k]))
        found[k] = plus(found[k], times(amends[0], _coordinates_in(torsion[0][1], lack)))
    for k in range(len(found) - 1):
        lack = minus(times(second, found[k]), times(first, found[k + 1]))
        found[k + 1] = plus(found[k + 1], times(amends[1], _coordinates_in(torsion[1][1], lack)))
    return found


def _new_columns(prime, base, columns):
    """Those of the columns that are no sums of multiples of all columns ahead."""
    return [columns[at] for at in new_groups(prime, base, [[column] for column in columns])]


def _chains_of_ups(web):
    """The chains of a pair made of ups alone: lists of Tables, of which each but the first follows from the one ahead.

    Chains of k columns begin with those from which as many, but not more, can be led on, and which are
    no sums of columns of longer ones.
    """
    first, second = web.tables
    further = times(solved_across(first, plain(web.prime, web.sizes[0])), second)
    spans = _falling_spans(first, second)
    found = []
    for k in range(len(spans) - 1, 0, -1):
        own, less = spans[k - 1], spans[k]
        base = columns_of(less) + columns_of(times(further, less))
        columns = _new_columns(web.prime, base, columns_of(own))
        if columns:
            chain = [_table_of(web.prime, web.sizes[0], columns)]
            while len(chain) < k:
                chain.append(times(further, chain[-1]))
            found.append(chain)
    return found


def _pieces_of_chain(web, chain):
    """The pieces of ups of a chain, one for each column of its Tables."""
    first, second = web.tables
    inner = [columns_of(table) for table in chain]
    outer = [columns_of(times(first, chain[0]))] + [columns_of(times(second, table)) for table in chain]
    return [(("up", len(chain)), [some[at] for some in inner], [some[at] for some in outer])
            for at in range(chain[0].wide)]


def _split_ups(web):
    """The tidy columns, in both rooms, of all but the ups, and the pieces of ups beside them."""
    torsion = _torsion(web)
    lines = tuple([left_over(table) for table in torsion[0]])
    rest = web_onto(web, lines)
    lifts = [solved(table, plain(web.prime, table.tall)) for table in lines]
    given = [column for table in rest.tables for column in columns_of(table)]
    lone = _new_columns(web.prime, given, columns_of(plain(web.prime, rest.sizes[1])))
    lone = times(lifts[1], _table_of(web.prime, rest.sizes[1], lone))
    found = [(("up", 0), [], [column]) for column in columns_of(lone)]
    amends = _amends(web, torsion)
    for chain in _chains_of_ups(rest):
        chain = _amended(web, torsion, amends, [times(lifts[0], table) for table in chain])
        found = found + _pieces_of_chain(web, chain)
    return (torsion[0], found)


def _with_tables_across(web):
    """The pair whose two tables are those of the web across."""
    return Web(web.net, web.prime, (web.sizes[1], web.sizes[0]), [across(table) for table in web.tables])


def _columns_of_all(pieces, room):
    """The columns of all pieces in this room, 0 or 1."""
    return [column for piece in pieces for column in piece[1 + room]]


def _split_downs(web):
    """The columns, in both rooms, of turns and fars, and the pieces of downs, of a pair without ups.

    The lines of downs are the columns of ups of the pair with tables across: what is made of the
    inverses of both rooms' columns there, across, is their columns.
    """
    turned = _with_tables_across(web)
    torsion, ups = _split_ups(turned)
    ways = []
    for room, size in enumerate(turned.sizes):
        columns = columns_of(torsion[room]) + _columns_of_all(ups, room)
        ways.append(columns_of(inverse(across(_table_of(web.prime, size, columns)))))
    inner, outer = ways[1], ways[0]
    pieces = []
    ahead = [torsion[1].wide, torsion[0].wide]
    for (_, k), _, _ in ups:
        pieces.append((("down", k), inner[ahead[0]:ahead[0] + k + 1], outer[ahead[1]:ahead[1] + k]))
        ahead = [ahead[0] + k + 1, ahead[1] + k]
    rooms = [_table_of(web.prime, size, columns[:table.wide])
             for size, columns, table in zip(web.sizes, (inner, outer), (torsion[1], torsion[0]))]
    return (tuple(rooms), pieces)


def _cyclic_pieces(inner, first, second):
    """The pieces of these columns, which first leads on without loss, and second into what first makes of them."""
    led = times(first, inner)
    found = []
    for poly, e, chain in cyclic_parts(solved(led, times(second, inner))):
        columns = _table_of(inner.prime, inner.wide, chain)
        found.append(((poly, e), columns_of(times(inner, columns)), columns_of(times(led, columns))))
    return found


def _regular_pieces(web):
    """The pieces of turns and fars of a pair that is made of these alone."""
    first, second = web.tables
    turning = _falling_spans(first, second)[-1]
    fading = empty(web.prime, web.sizes[0], 0)
    more = kernel(first)
    while more.wide > fading.wide:
        fading = more
        more = fetched_span(first, times(second, fading))
    found = [(("turn", poly, e), inner, outer) for (poly, e), inner, outer in _cyclic_pieces(turning, first, second)]
    return found + [(("far", e), inner, outer) for (_, e), inner, outer in _cyclic_pieces(fading, second, first)]


def _pieces_in(ways, pieces):
    """The pieces of a web, told in the columns in which these Tables tell its rooms."""
    found = []
    for name, inner, outer in pieces:
        rooms = [columns_of(times(way, _table_of(way.prime, way.wide, columns)))
                 for way, columns in zip(ways, (inner, outer))]
        found.append((name, rooms[0], rooms[1]))
    return found


def _pieces(web):
    """All pieces of the pair, their names ascending."""
    rooms, found = _split_ups(web)
    torsion = web_into(web, rooms)
    regular_rooms, downs = _split_downs(torsion)
    regular = web_into(torsion, regular_rooms)
    more = downs + _pieces_in(regular_rooms, _regular_pieces(regular))
    return sorted(found + _pieces_in(rooms, more))


def split_pair(web):
    """The kind of the pair, and coordinates in which it is sum_of_kind of it."""
    check_pair(web)
    found = _pieces(web)
    way = [_table_of(web.prime, size, _columns_of_all(found, room)) for room, size in enumerate(web.sizes)]
    return (tuple([piece[0] for piece in found]), list(map_back(way)))


def kind_of_pair(web):
    """The kind of the pair."""
    check_pair(web)
    return tuple([piece[0] for piece in _pieces(web)])


def is_split_pair(web, thing):
    """Whether thing, which may be anything, is such a pair as split_pair tells."""
    check_pair(web)
    if not isinstance(thing, tuple) or len(thing) != 2 or not isinstance(thing[1], list):
        return False
    kind, coordinates = thing
    if not are_pair_names(web.prime, kind) or sizes_of_names(kind) != web.sizes:
        return False
    # Coordinates are a map from the web to what it is changed into.
    return leads_back(web, sum_of_names(web.prime, kind), tuple(coordinates))


def chain_count(web, many):
    """On how many free numbers all chains x 0 to x many hang, first leading each where second leads the next one.

    The last column of a chain is one that can be come to by so many steps, and that first leads to 0;
    two chains with the same last one differ by a chain that ends one column sooner.
    """
    check_pair(web)
    if not is_number_to(many, GREATEST_MANY):
        raise BadNumber("many")
    first, second = web.tables
    last = kernel(first)
    reached = kernel(second)
    found = common_span(last, reached).wide
    for _ in range(many):
        reached = fetched_span(second, times(first, reached))
        found += common_span(last, reached).wide
    return found
