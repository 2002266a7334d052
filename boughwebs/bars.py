"""Lines and bars: each web on a line is a row of bars."""

from boughwebs.checks import is_number_to
from boughwebs.errors import BadBar, BadBars, BadNumber, NotLine, TooMany
from boughwebs.maps import MOST_NUMBERS, behind, leads_back, map_back
from boughwebs.nets import Net, is_tree
from boughwebs.solving import kernel_columns, reduced, sparse
from boughwebs.splits import kind_of, split_web
from boughwebs.tables import GREATEST, Table, check_prime
from boughwebs.webs import Web


def _near(net):
    """For each place how many arrows it has."""
    return [len([arrow for arrow in net.arrows if place in arrow]) for place in range(net.places)]


def check_line(net):
    """NotLine unless net is a Net whose shape is a line."""
    if not isinstance(net, Net) or not is_tree(net) or max(_near(net)) > 2:
        raise NotLine("a net that is a line is wanted")


def spots_of(net):
    """The places of a line from the end with the lesser number to the other end."""
    found = [[place for place, many in enumerate(_near(net)) if many < 2][0]]
    while len(found) < net.places:
        ends = [arrow for arrow in net.arrows if found[-1] in arrow]
        found.append([place for arrow in ends for place in arrow if place not in found][0])
    return tuple(found)


def line_order(net):
    """The places of a line from the end with the lesser number to the other end."""
    check_line(net)
    return spots_of(net)


def is_bar_to(thing, last):
    """Whether thing, which may be anything, is a bar of spots up to the last one."""
    if not isinstance(thing, tuple) or len(thing) != 2 or not all([is_number_to(spot, last) for spot in thing]):
        return False
    return thing[0] <= thing[1]


def check_bars_to(thing, last):
    """BadBars for what is no ascending tuple of such bars."""
    if not isinstance(thing, tuple):
        raise BadBars(None)
    for at, bar in enumerate(thing):
        if not is_bar_to(bar, last) or (at > 0 and bar < thing[at - 1]):
            raise BadBars(at)


def are_bars_to(thing, last):
    """Whether thing, which may be anything, is an ascending tuple of such bars."""
    if not isinstance(thing, tuple) or not all([is_bar_to(bar, last) for bar in thing]):
        return False
    return list(thing) == sorted(thing)


def is_bar(net, thing):
    """Whether thing, which may be anything, is a bar of the line."""
    check_line(net)
    return is_bar_to(thing, net.places - 1)


def is_bars(net, thing):
    """Whether thing, which may be anything, is an ascending tuple of bars of the line."""
    check_line(net)
    return are_bars_to(thing, net.places - 1)


def covers(bar, spot):
    """Whether the spot is one of the bar."""
    return bar[0] <= spot <= bar[1]


def sizes_of_bars(net, bars):
    """How many of the bars cover each place."""
    order = spots_of(net)
    return tuple([len([bar for bar in bars if covers(bar, order.index(place))]) for place in range(net.places)])


def web_covered(net, prime, bars):
    """The sum of the bar webs, in order, if there is not too much in a room."""
    order = spots_of(net)
    covered = [[at for at, bar in enumerate(bars) if covers(bar, order.index(place))] for place in range(net.places)]
    tables = []
    for tail, head in net.arrows:
        lines = [[1 if at == other else 0 for other in covered[tail]] for at in covered[head]]
        tables.append(Table(prime, len(covered[head]), len(covered[tail]), lines))
    return Web(net, prime, tuple([len(some) for some in covered]), tables)


def bar_web(net, prime, bar):
    """The web with size 1 at the spots of the bar, and 1 in each table between two of them."""
    check_line(net)
    check_prime(prime)
    if not is_bar_to(bar, net.places - 1):
        raise BadBar("a pair of spots is wanted, the first one at most the second")
    return web_covered(net, prime, (bar,))


def web_of_bars(net, prime, bars):
    """The sum of the bar webs, in order."""
    check_line(net)
    check_prime(prime)
    check_bars_to(bars, net.places - 1)
    if max(sizes_of_bars(net, bars)) > GREATEST:
        raise BadBars(None)
    return web_covered(net, prime, bars)


def check_line_web(web):
    """NotLine unless web is a Web on a line."""
    if not isinstance(web, Web):
        raise NotLine("a web on a line is wanted")
    check_line(web.net)


def bar_of_root(order, root):
    """The bar that covers the spots at whose places the root has 1."""
    spots = [spot for spot, place in enumerate(order) if root[place]]
    return (spots[0], spots[-1])


def bars_of_line_kind(net, kind):
    """The bars of which this is the kind."""
    order = spots_of(net)
    found = []
    for root, many in kind.items():
        found = found + [bar_of_root(order, root)] * many
    return tuple(sorted(found))


def split_line(web):
    """The bars of the web, and coordinates in which it is web_of_bars of them."""
    check_line_web(web)
    webs, way = split_web(web)
    order = spots_of(web.net)
    bars = tuple(sorted([bar_of_root(order, some.sizes) for some in webs]))
    goal = web_covered(web.net, web.prime, bars)
    return (bars, list(behind(map_back(way), split_web(goal)[1])))


def bars_of(web):
    """The bars of the web."""
    check_line_web(web)
    return bars_of_line_kind(web.net, kind_of(web))


def is_split_line(web, thing):
    """Whether thing, which may be anything, is such a pair as split_line tells."""
    check_line_web(web)
    if not isinstance(thing, tuple) or len(thing) != 2 or not isinstance(thing[1], list):
        return False
    bars, coordinates = thing
    if not are_bars_to(bars, web.net.places - 1) or sizes_of_bars(web.net, bars) != web.sizes:
        return False
    # Coordinates are a map from the web to what it is changed into.
    return leads_back(web, web_covered(web.net, web.prime, bars), tuple(coordinates))


def check_spots(web, start, stop):
    """NotLine, BadNumber("start"), BadNumber("stop") unless these are two spots of the web, start at most stop."""
    check_line_web(web)
    if not is_number_to(start, web.net.places - 1):
        raise BadNumber("start")
    if not is_number_to(stop, web.net.places - 1) or stop < start:
        raise BadNumber("stop")


def long_rank(web, start, stop):
    """How many bars of the web cover both spots."""
    check_spots(web, start, stop)
    return len([bar for bar in bars_of(web) if covers(bar, start) and covers(bar, stop)])


def arrows_between(net, start, stop):
    """The triples (arrow, spot of its tail, spot of its head) between these spots, in their order."""
    order = spots_of(net)
    found = []
    for spot in range(start, stop):
        pair = (order[spot], order[spot + 1])
        if pair in net.arrows:
            found.append((net.arrows.index(pair), spot, spot + 1))
        else:
            found.append((net.arrows.index((pair[1], pair[0])), spot + 1, spot))
    return found


def _thread_equations(web, start, stop, ahead):
    """The equations for the numbers of a thread, of which so many stand ahead of each spot."""
    rows = []
    for at, tail, head in arrows_between(web.net, start, stop):
        for line, row in enumerate(sparse(web.tables[at].lines)):
            told = {ahead[tail] + k: row[k] for k in row}
            told[ahead[head] + line] = web.prime - 1
            rows.append(told)
    return rows


def threads(web, start, stop):
    """The columns, one for each spot, that the tables between the spots lead into one another."""
    check_spots(web, start, stop)
    order = spots_of(web.net)
    ahead = {}
    many = 0
    for spot in range(start, stop + 1):
        ahead[spot] = many
        many += web.sizes[order[spot]]
    if many > MOST_NUMBERS:
        raise TooMany(MOST_NUMBERS)
    columns = kernel_columns(many, reduced(web.prime, _thread_equations(web, start, stop, ahead)))
    cuts = [(first, first + web.sizes[order[own]]) for own, first in ahead.items()]
    return [tuple([tuple([number % web.prime for number in column[first:last]]) for first, last in cuts])
            for column in columns]
