"""Ladders: each web's chain of parts with steady steps, and what follows for its dearest parts."""

from math import gcd

from boughwebs.checks import is_number
from boughwebs.errors import NotSo
from boughwebs.generals import all_under, check_few_rows, check_small_row
from boughwebs.kinds import general_kind, is_kind, kind_row, maps_of_kinds
from boughwebs.leasts import least_web
from boughwebs.maps import behind, every_map, plain_map
from boughwebs.meshes import counts_of_kind
from boughwebs.nets import check_net
from boughwebs.parts import fetched_by, is_part_of, no_part, rest_by, row_of_part, whole_part
from boughwebs.roots import check_good, form_ahead, roots
from boughwebs.solving import combination
from boughwebs.spans import span_of
from boughwebs.splits import columns_of_webs, kind_of, split_web
from boughwebs.steady import check_prices, check_weights, highest_slope, is_lower, product_sum, slope_of
from boughwebs.steady import steady_slopes, told_weights
from boughwebs.tables import times
from boughwebs.webs import check_web

# A prime above all sizes of rooms.
ABOVE_SIZES = 97


def _check(web, prices, weights):
    check_web(web)
    check_good(web.net)
    check_prices(web.net, prices)
    check_weights(web.net, weights)


def _greatest_slope(net, steady, kind):
    """The greatest slope of a steady root from whose least web there are maps to webs of the kind; None without."""
    found = []
    for root, own, _ in steady:
        ahead = form_ahead(net, root)
        if any([product_sum(ahead, other) > 0 for other in kind]):
            found.append(own)
    return highest_slope(found)


def _first_part(web, steady, wanted):
    """What the maps from the least webs of the steady roots of this slope span together."""
    columns = [[] for _ in web.sizes]
    for root, own, _ in steady:
        if own == wanted:
            for mapping in every_map(least_web(web.net, web.prime, root), web):
                columns = [some + [table] for some, table in zip(columns, mapping)]
    return tuple([span_of(web.prime, size, some) for size, some in zip(web.sizes, columns)])


def _root_ladder(net, prime, steady, root):
    """The pairs (slope, part) of the ladder of the root's least web."""
    web = least_web(net, prime, root)
    known = [own for other, own, _ in steady if other == root]
    if known:
        return [(known[0], whole_part(web))]
    found = []
    rest, onto = web, plain_map(web)
    while any(rest.sizes):
        own = _greatest_slope(net, steady, kind_of(rest))
        first = _first_part(rest, steady, own)
        found.append((own, fetched_by(onto, first)))
        rest, further = rest_by(rest, first)
        onto = behind(onto, further)
    return found


def _root_ladders(net, prime, prices, weights, kind):
    """The ladders of the least webs of all roots of the kind."""
    steady = steady_slopes(net, prices, weights)
    return {root: _root_ladder(net, prime, steady, root) for root in kind}


def _falling(slopes):
    """The slopes, each once, from the greatest down."""
    left = list(slopes)
    found = []
    while left:
        found.append(highest_slope(left))
        left = [own for own in left if own != found[-1]]
    return found


def _last_above(steps, own):
    """The last part of a ladder's pairs (slope, part) up to which no slope is below this one; None if there is none."""
    found = None
    for some, part in steps:
        if not is_lower(some, own):
            found = part
    return found


def _spread_part(web, webs, columns, parts):
    """The part of the web that is put together of parts, or None, of the webs of a splitting."""
    found = []
    for place, size in enumerate(web.sizes):
        tables = [times(some[place], part[place]) for some, part in zip(columns, parts) if part is not None]
        found.append(span_of(web.prime, size, tables))
    return tuple(found)


def _steps(web, prices, weights):
    """The pairs (slope, part) of the web's ladder: the ladders of all webs of a splitting put together."""
    webs, way = split_web(web)
    kind = {some.sizes: 1 for some in webs}
    told = _root_ladders(web.net, web.prime, prices, weights, kind)
    columns = columns_of_webs(webs, way)
    found = []
    for own in _falling([own for steps in told.values() for own, _ in steps]):
        parts = [_last_above(told[some.sizes], own) for some in webs]
        found.append((own, _spread_part(web, webs, columns, parts)))
    return found


def ladder(web, prices, weights):
    """The parts of the web's ladder; [] for a web without rooms."""
    _check(web, prices, weights)
    return [part for _, part in _steps(web, prices, weights)]


def is_ladder(web, prices, weights, thing):
    """Whether thing, which may be anything, is the web's ladder: there is just one."""
    _check(web, prices, weights)
    if not isinstance(thing, list) or not all([is_part_of(web, part) for part in thing]):
        return False
    return thing == [part for _, part in _steps(web, prices, weights)]


def _slopes_and_rows(web, prices, weights):
    """The pairs (slope, row) of the steps of the web's ladder, told by its kind."""
    kind = kind_of(web)
    rows = {}
    for root, steps in _root_ladders(web.net, web.prime, prices, weights, kind).items():
        ahead = [0] * web.net.places
        for own, part in steps:
            row = row_of_part(part)
            more = [kind[root] * (a - b) for a, b in zip(row, ahead)]
            rows[own] = [a + b for a, b in zip(rows.get(own, [0] * web.net.places), more)]
            ahead = row
    return [(own, tuple(rows[own])) for own in _falling(list(rows))]


def steps_of(web, prices, weights):
    """The pairs (row, slope) of the steps of the web's ladder."""
    _check(web, prices, weights)
    return [(row, own) for own, row in _slopes_and_rows(web, prices, weights)]


def _firmness(web, prices, weights):
    """For each root of the web's kind, if all are steady and of one slope, whether it is firm; otherwise None."""
    kind = kind_of(web)
    told = {root: (own, firm) for root, own, firm in steady_slopes(web.net, prices, weights)}
    if not kind or not all([root in told for root in kind]):
        return None
    slopes = [told[root][0] for root in kind]
    if any([own != slopes[0] for own in slopes]):
        return None
    return {root: told[root][1] for root in kind}


def is_steady(web, prices, weights):
    """Whether the web has a room, and no dear part."""
    _check(web, prices, weights)
    return _firmness(web, prices, weights) is not None


def is_firm(web, prices, weights):
    """Whether the web has a room, and all parts but no_part and whole_part have lesser slopes."""
    _check(web, prices, weights)
    # Of two summands of one slope each would be a part that has it, too.
    firm = _firmness(web, prices, weights)
    return firm is not None and sum(kind_of(web).values()) == 1 and all(list(firm.values()))


def dear_part(web, prices, weights):
    """The first part of the ladder; None if the web is steady or has no room."""
    _check(web, prices, weights)
    found = _steps(web, prices, weights)
    return found[0][1] if len(found) > 1 else None


def general_steps(net, prices, weights, row):
    """The pairs (row, slope) of the ladder that webs of this row have in general."""
    check_net(net)
    check_prices(net, prices)
    check_weights(net, weights)
    check_small_row(net, row)
    check_few_rows(row)
    under = all_under(net, row)
    found = []
    left = row
    while any(left):
        told = [(slope_of(net, prices, weights, some), some) for some in under[left] if any(some)]
        own = highest_slope([one for one, _ in told])
        _, best = max([(sum(some), some) for one, some in told if one == own])
        found.append((best, own))
        left = tuple([a - b for a, b in zip(left, best)])
    return found


def _even_prices(web, prices, weights):
    told = told_weights(web.net, weights)
    below, above = product_sum(told, web.sizes), product_sum(prices, web.sizes)
    found = [price * below - weight * above for price, weight in zip(prices, told)]
    common = 0
    for number in found:
        common = gcd(common, number)
    return tuple([number // common if common else 0 for number in found])


def even_prices(web, prices, weights):
    """The prices under which the web itself is worth 0, and just the dear parts more."""
    _check(web, prices, weights)
    if not any(web.sizes):
        raise NotSo("a web with a room is wanted")
    return _even_prices(web, prices, weights)


def _witness_row(web, prices):
    """The row, 0 where the web has no room, whose form with 1 at any other place is the price there."""
    net = web.net
    found = [0] * net.places
    left = [place for place in range(net.places) if web.sizes[place]]
    while left:
        waiting = [head for tail, head in net.arrows if tail in left]
        for place in [other for other in left if other not in waiting]:
            ahead = sum([found[tail] for tail, head in net.arrows if head == place])
            found[place] = prices[place] + ahead
            left = [other for other in left if other != place]
    return tuple(found)


def witness(web, prices, weights):
    """The kind that shows the web to be steady; None unless it is."""
    _check(web, prices, weights)
    if _firmness(web, prices, weights) is None:
        return None
    return general_kind(web.net, _witness_row(web, _even_prices(web, prices, weights)))


def is_witness(web, prices, weights, thing):
    """Whether thing, which may be anything, is a kind that shows the web to be steady."""
    _check(web, prices, weights)
    net = web.net
    if not any(web.sizes) or not is_kind(net, thing):
        return False
    told = form_ahead(net, kind_row(net, thing))
    wanted = _even_prices(web, prices, weights)
    if not all([told[place] == wanted[place] for place in range(net.places) if web.sizes[place]]):
        return False
    return maps_of_kinds(net, thing, kind_of(web)) == 0


def factors(web, prices, weights):
    """How often the step of a chain of parts of the web's slope, made finest, is the least web of each firm root."""
    _check(web, prices, weights)
    if _firmness(web, prices, weights) is None:
        raise NotSo("a steady web is wanted")
    own = slope_of(web.net, prices, weights, web.sizes)
    firm = [root for root, some, is_so in steady_slopes(web.net, prices, weights) if is_so and some == own]
    # These rows are independent modulo every prime, and none is taken more often than a room is great.
    many = combination(ABOVE_SIZES, firm, web.sizes)
    told = {root: often for root, often in zip(firm, many) if often}
    return {root: told[root] for root in sorted(told)}


def _dearest_parts(web, prices):
    """The least and the greatest part of the greatest worth."""
    least = greatest = no_part(web)
    for own, part in _steps(web, prices, None):
        if own[0] > 0:
            least = part
        if own[0] >= 0:
            greatest = part
    return (least, greatest)


def dearest(web, prices):
    """The triple of the greatest worth of a part, the least part that has it, and the greatest one."""
    _check(web, prices, None)
    least, greatest = _dearest_parts(web, prices)
    return (product_sum(prices, row_of_part(least)), least, greatest)


def is_dearest(web, prices, number, thing):
    """Whether thing is a part worth number, and no part is worth more; both may be anything."""
    _check(web, prices, None)
    if not is_number(number) or not is_part_of(web, thing):
        return False
    if product_sum(prices, row_of_part(thing)) != number:
        return False
    return number == sum([max(0, product_sum(prices, row)) for _, row in _slopes_and_rows(web, prices, None)])


def worths(web):
    """The greatest worths of parts under the root_prices of all roots: the numbers of maps from their least webs."""
    check_web(web)
    check_good(web.net)
    counts = counts_of_kind(web.net, kind_of(web))
    return [counts[root] for root in roots(web.net)]
