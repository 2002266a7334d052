"""Mirrors: what a net, its webs and their maps are made into at a sink or a source.

At a source all is done as at the sink of the turned web, and turned back: with all tables across,
kernel and left_over, lines and columns, before and behind are exchanged.
"""

from boughwebs.errors import NotSo, TooMany
from boughwebs.maps import check_map
from boughwebs.nets import Net, check_net, check_place, sinks, sources, unit_row
from boughwebs.solving import inverse, kernel, leading_of, left_over, rank, solved, solved_across
from boughwebs.tables import GREATEST, Table, across, beside, check_prime, corner, empty, plain, times
from boughwebs.webs import Web, bare, check_web, turned_web


def check_end(net, place):
    """BadPlace unless place is a place of the net, NotSo unless it is a sink or a source."""
    check_place(net, place)
    if place not in sinks(net) and place not in sources(net):
        raise NotSo("the place is neither a sink nor a source")


def mirrored_net(net, place):
    """The net with each arrow at the place turned."""
    check_net(net)
    check_end(net, place)
    return Net(net.places, [(head, tail) if place in (tail, head) else (tail, head)
                            for tail, head in net.arrows])


def point_web(net, prime, place):
    """The web with size 1 at the place and 0 elsewhere."""
    check_net(net)
    check_prime(prime)
    check_place(net, place)
    return bare(net, prime, unit_row(net, place))


def inflow(web, place):
    """The tables of the arrows that lead into the place, beside one another."""
    check_web(web)
    check_place(web.net, place)
    tables = [table for table, (tail, head) in zip(web.tables, web.net.arrows) if head == place]
    if sum([table.wide for table in tables]) > GREATEST:
        raise TooMany(GREATEST)
    return beside([empty(web.prime, web.sizes[place], 0)] + tables)


def outflow(web, place):
    """The tables of the arrows that lead away from the place, over one another."""
    return across(inflow(turned_web(web), place))


def _sinkward(web, place):
    """The web itself if the place is a sink, otherwise the turned web."""
    return web if place in sinks(web.net) else turned_web(web)


def _turned_map(mapping):
    return tuple([across(table) for table in mapping])


def _with_item(items, at, item):
    """The tuple of the items with another one at this index."""
    return tuple([item if k == at else items[k] for k in range(len(items))])


def _mirrored_sink(web, place):
    known = kernel(inflow(web, place))
    tables = []
    ahead = 0
    for table, (tail, head) in zip(web.tables, web.net.arrows):
        if head == place:
            lines = known.lines[ahead:ahead + table.wide]
            tables.append(Table(web.prime, table.wide, known.wide, lines))
            ahead += table.wide
        else:
            tables.append(table)
    sizes = _with_item(web.sizes, place, known.wide)
    return Web(mirrored_net(web.net, place), web.prime, sizes, tables)


def mirrored(web, place):
    """The web of mirrored_net whose room at the place is what the tables around it lead to 0, or leave."""
    check_web(web)
    check_end(web.net, place)
    if place in sinks(web.net):
        return _mirrored_sink(web, place)
    return turned_web(_mirrored_sink(turned_web(web), place))


def lost_points(web, place):
    """How many point webs the mirror loses: the size less the rank of all tables at the place."""
    check_web(web)
    check_end(web.net, place)
    return web.sizes[place] - rank(inflow(_sinkward(web, place), place))


def _mirrored_sink_map(one, other, mapping, place):
    first = kernel(inflow(one, place))
    second = kernel(inflow(other, place))
    tails = [mapping[tail] for tail, head in one.net.arrows if head == place]
    lead = corner([empty(one.prime, 0, 0)] + tails)
    return _with_item(mapping, place, solved(second, times(lead, first)))


def mirrored_map(one, other, mapping, place):
    """The map between the mirrored webs that is the given one at all other places."""
    check_map(one, other, mapping)
    check_end(one.net, place)
    if place in sinks(one.net):
        return _mirrored_sink_map(one, other, mapping, place)
    turned = _turned_map(mapping)
    return _turned_map(_mirrored_sink_map(turned_web(other), turned_web(one), turned, place))


def _again_table(web, place):
    """From the room of the web mirrored twice at this sink into the room of the web."""
    flow = inflow(web, place)
    return solved_across(left_over(kernel(flow)), flow)


def mirrored_again(web, place):
    """The web mirrored twice, and the map at a sink from it into web, at a source from web onto it."""
    twice = mirrored(mirrored(web, place), place)
    table = _again_table(_sinkward(web, place), place)
    if place not in sinks(web.net):
        table = across(table)
    return (twice, _with_item([plain(web.prime, size) for size in web.sizes], place, table))


def _completed(one):
    """One, its lines being independent, over lines with a single 1 each that make it whole."""
    leading = leading_of(one)
    lines = [[1 if k == at else 0 for k in range(one.wide)] for at in range(one.wide) if at not in leading]
    return Table(one.prime, one.wide, one.wide, list(one.lines) + lines)


def split_off(web, place):
    """Tables, as is_alike wants them, from the web mirrored twice and the lost points to web."""
    _, mapping = mirrored_again(web, place)
    if place in sinks(web.net):
        table = across(_completed(across(mapping[place])))
    else:
        table = inverse(_completed(mapping[place]))
    return _with_item(mapping, place, table)
