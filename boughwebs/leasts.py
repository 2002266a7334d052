"""Ways along arrows, first and last webs, and the least web of each root."""

from boughwebs.errors import BadTable, TooMany
from boughwebs.maps import every_map
from boughwebs.nets import check_net, check_place, sink_order
from boughwebs.roots import check_good, check_root, is_root, other_ends
from boughwebs.solving import is_whole
from boughwebs.tables import GREATEST, Table, check_prime, check_table, is_sized
from boughwebs.walks import mirrored_source, point_at, tightened
from boughwebs.webs import Web, check_web
from boughwebs.words import flipped, rows_further, unit_rows


def _check_ways(ways):
    if len(ways) > GREATEST:
        raise TooMany(GREATEST)


def _ways_from(net, place):
    """For each place the ascending list of all ways from this one to it."""
    found = [[] for _ in range(net.places)]
    for end in reversed(sink_order(net)):
        ways = [way + (at,) for at, (tail, head) in enumerate(net.arrows) if head == end for way in found[tail]]
        found[end] = [()] if end == place else sorted(ways)
    return found


def _ways_to(net, place):
    """For each place the ascending list of all ways from it to this one."""
    found = [[] for _ in range(net.places)]
    for end in sink_order(net):
        ways = [(at,) + way for at, (tail, head) in enumerate(net.arrows) if tail == end for way in found[head]]
        found[end] = [()] if end == place else ways
    return found


def all_ways(net, one, other):
    """The ascending list of all ways along arrows from one place to the other."""
    check_net(net)
    check_place(net, one)
    check_place(net, other)
    ways = _ways_from(net, one)[other]
    _check_ways(ways)
    return ways


def _web_of_ways(net, prime, ways, step):
    """The web whose rooms have these ways as coordinates; step tells where an arrow leads one, or None."""
    for some in ways:
        _check_ways(some)
    tables = []
    for at, (tail, head) in enumerate(net.arrows):
        led = [step(at, way) for way in ways[tail]]
        lines = [[1 if way == other else 0 for other in led] for way in ways[head]]
        tables.append(Table(prime, len(ways[head]), len(led), lines))
    return Web(net, prime, tuple([len(some) for some in ways]), tables)


def first_web(net, prime, place):
    """The web with all ways from the place as coordinates: arrows lead a way to the one that goes on."""
    check_net(net)
    check_prime(prime)
    check_place(net, place)
    return _web_of_ways(net, prime, _ways_from(net, place), lambda at, way: way + (at,))


def last_web(net, prime, place):
    """The web with all ways to the place as coordinates: an arrow leads a way that begins with it to the rest."""
    check_net(net)
    check_prime(prime)
    check_place(net, place)
    return _web_of_ways(net, prime, _ways_to(net, place), lambda at, way: way[1:] if way[:1] == (at,) else None)


def map_from(web, place, column):
    """The map from the first web of the place to web that leads each way to what it makes of the column."""
    check_web(web)
    check_table(column)
    check_place(web.net, place)
    if not is_sized(column, web.prime, web.sizes[place], 1):
        raise BadTable("a column of the room at the place is wanted")
    ways = _ways_from(web.net, place)
    for some in ways:
        _check_ways(some)
    led = {(): [line[0] for line in column.lines]}
    for _, longer in sorted([(len(way), way) for some in ways for way in some if way]):
        ahead = led[longer[:-1]]
        led[longer] = [sum([a * b for a, b in zip(line, ahead)]) for line in web.tables[longer[-1]].lines]
    return tuple([Table(web.prime, size, len(some), [[led[way][k] for way in some] for k in range(size)])
                  for size, some in zip(web.sizes, ways)])


def root_word(net, root):
    """The pair (word, place) of the shortest beginning of the sink word, repeated, that leads root to the place."""
    check_good(net)
    check_root(net, root)
    order = sink_order(net)
    ends = other_ends(net)
    rows = unit_rows(net)
    word = []
    while rows[order[len(word) % net.places]] != root:
        place = order[len(word) % net.places]
        rows = rows_further(ends, rows, place)
        word.append(place)
    return (word, order[len(word) % net.places])


def least_web(net, prime, root):
    """The least web of the root: the point web to which its word leads, mirrored back."""
    check_good(net)
    check_prime(prime)
    word, place = root_word(net, root)
    arrows = list(net.arrows)
    for letter in word:
        arrows = flipped(arrows, letter)
    loose = point_at(prime, arrows, net.places, place)
    for letter in reversed(word):
        loose, _ = mirrored_source(loose, letter)
    return tightened(loose)


def shown_least(web):
    """The one map from the least web of these sizes to web if both are alike, otherwise None."""
    check_web(web)
    check_good(web.net)
    if not is_root(web.net, web.sizes):
        return None
    found = every_map(least_web(web.net, web.prime, web.sizes), web)
    if len(found) == 1 and all([is_whole(table) for table in found[0]]):
        return found[0]
    return None
