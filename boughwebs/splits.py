"""Splittings: which least webs a web is a sum of, and the coordinates that show it."""

from boughwebs.errors import BadWeb, TooMany
from boughwebs.kinds import kind_of_pairs, kind_row
from boughwebs.leasts import least_web
from boughwebs.maps import behind, how_many_maps, leading_equations, leads, map_back, maps_of_equations, offsets
from boughwebs.maps import plain_map, sum_of_maps
from boughwebs.partings import done_often, parted
from boughwebs.roots import check_good, is_good, is_root, pair_value
from boughwebs.solving import is_whole, rank
from boughwebs.tables import GREATEST, Table, beside, check_prime, corner, empty, over, plain, times
from boughwebs.walks import column_led, least_end, lines_across, loosened, mirrored_sink, mirrored_source, point_at
from boughwebs.walks import tightened
from boughwebs.webs import Web, check_web, sum_or_bare
from boughwebs.words import rows_met

MOST_TURNS = 600


def whole_of(net, prime, kind):
    """The sum of the least webs of the kind's roots, ascending, each as often as told."""
    check_good(net)
    check_prime(prime)
    if max(kind_row(net, kind)) > GREATEST:
        raise BadWeb("sizes")
    webs = []
    for root in sorted(kind):
        webs = webs + [least_web(net, prime, root)] * kind[root]
    return sum_or_bare(net, prime, webs)


def check_turns(prime, many):
    """TooMany(600) if prime to the power of many is more."""
    found = 1
    for _ in range(many):
        found = found * prime
        if found > MOST_TURNS:
            raise TooMany(MOST_TURNS)


def _few_turns(web):
    """The maps from the web to itself of which all others are sums of multiples."""
    # There are never fewer than the form tells, and it is told much sooner.
    check_turns(web.prime, pair_value(web.net, web.sizes, web.sizes))
    leading = leading_equations(web, web)
    check_turns(web.prime, offsets(web, web)[-1] - len(leading))
    return maps_of_equations(web, web, leading)


def multiples(prime, many):
    """All lists of so many numbers whose last one that is not 0 is 1: of multiples of one list just one."""
    found = []
    ahead = [[]]
    for k in range(many):
        found = found + [numbers + [1] + [0] * (many - k - 1) for numbers in ahead]
        ahead = [numbers + [number] for numbers in ahead for number in range(prime)]
    return found


def _does_both(turn):
    """Whether the map has no inverse and does not come to 0 either, however often it is done."""
    keeps = fades = False
    for table in turn:
        kept = rank(done_often(table, table.tall))
        keeps = keeps or kept > 0
        fades = fades or kept < table.tall
    return keeps and fades


def _parting_turn(web):
    """A map from the web to itself that does both; None if there is none."""
    turns = _few_turns(web)
    for numbers in multiples(web.prime, len(turns)):
        turn = sum_of_maps(web, web, turns, numbers)
        if _does_both(turn):
            return turn
    return None


def is_least(web):
    """Whether the rooms are not all empty and each map from the web to itself has an inverse or fades."""
    check_web(web)
    if is_good(web.net):
        return is_root(web.net, web.sizes) and how_many_maps(web, web) == 1
    return _parting_turn(web) is None and any(web.sizes)


def peel_loose(loose):
    """The mirrors at the least sink, step by step, until all rooms are empty.

    Triples of the web ahead of the step, the place, and which coordinates split off as points.
    """
    steps = []
    while any(loose.sizes):
        place = least_end(loose.arrows, len(loose.sizes))
        after, spare = mirrored_sink(loose, place)
        steps.append((loose, place, spare))
        loose = after
    return steps


def peel(web):
    """What peel_loose tells of a Web."""
    return peel_loose(loosened(web))


def rows_of_steps(net, steps):
    """For each step the row of its points in the net from which the steps begin."""
    return rows_met(net, [place for loose, place, spare in steps])


def kind_of_loose(net, loose):
    """The kind of a web on this good net, told by plain lists."""
    steps = peel_loose(loose)
    rows = rows_of_steps(net, steps)
    return kind_of_pairs([(row, len(spare)) for row, (_, place, spare) in zip(rows, steps) if spare])


def kind_of(web):
    """The kind whose whole_of is alike to the web."""
    check_web(web)
    check_good(web.net)
    return kind_of_loose(web.net, loosened(web))


def _led_back(loose, place, tables, least, columns):
    """A least web, and the columns of its copies, led back by the mirror that made them from what stood ahead.

    Columns are told place by place, copy by copy, coordinate by coordinate of the least web. Each
    new coordinate at the place is led to what a table into the place, of which the columns are
    told, makes of the column at one of the rooms around.
    """
    after, shown = mirrored_source(least, place)
    led = [[column_led(loose.prime, tables[at], columns[loose.arrows[at][0]][copy][k]) for at, k in shown]
           for copy in range(len(columns[place]))]
    return (after, [led if k == place else some for k, some in enumerate(columns)])


def _points(loose, place, spare):
    """The point web at the place, and its columns, as many copies as coordinates split off."""
    least = point_at(loose.prime, loose.arrows, len(loose.sizes), place)
    return (least, [[[{at: 1}] if k == place else [] for at in spare] for k in range(len(loose.sizes))])


def _of_columns(prime, columns):
    """The square table of these columns."""
    many = len(columns)
    return Table(prime, many, many, [[column.get(k, 0) for column in columns] for k in range(many)])


def _split_good(web):
    found = []
    for loose, place, spare in reversed(peel(web)):
        tables = [lines_across(lines, loose.sizes[tail]) if head == place else None
                  for lines, (tail, head) in zip(loose.tables, loose.arrows)]
        found = [_led_back(loose, place, tables, least, columns) for least, columns in found]
        if spare:
            found.append(_points(loose, place, spare))
    webs = []
    way = [[] for _ in range(web.net.places)]
    for _, at in sorted([(tuple(least.sizes), at) for at, (least, columns) in enumerate(found)]):
        least, columns = found[at]
        webs = webs + [tightened(least)] * len(columns[0])
        way = [some + [column for copy in more for column in copy] for some, more in zip(way, columns)]
    return (tuple(webs), tuple([_of_columns(web.prime, some) for some in way]))


def _split_any(web):
    """A splitting: parted by any map that does both, then each part again."""
    if not any(web.sizes):
        return ((), plain_map(web))
    turn = _parting_turn(web)
    if turn is None:
        return ((web,), plain_map(web))
    firm, fading, way = parted(web, turn)
    first, last = _split_any(firm), _split_any(fading)
    both = tuple([corner([one, other]) for one, other in zip(first[1], last[1])])
    return (first[0] + last[0], behind(both, way))


def split_web(web):
    """A splitting of the web: on a good net into the least webs of its roots, ascending."""
    check_web(web)
    return _split_good(web) if is_good(web.net) else _split_any(web)


def _is_told_by(web, thing):
    """Whether thing is a pair of webs, least or not, and a way from their sum to the web."""
    if not isinstance(thing, tuple) or len(thing) != 2 or not isinstance(thing[0], tuple):
        return False
    webs, way = thing
    if not all([isinstance(some, Web) and some.net == web.net and some.prime == web.prime for some in webs]):
        return False
    sizes = tuple([sum([some.sizes[place] for some in webs]) for place in range(web.net.places)])
    if sizes != web.sizes or not leads(sum_or_bare(web.net, web.prime, webs), web, way):
        return False
    return all([is_whole(table) for table in way])


def is_split(web, thing):
    """Whether thing, which may be anything, is a splitting of the web."""
    check_web(web)
    if not _is_told_by(web, thing):
        return False
    for some in thing[0]:
        if not is_least(some):
            return False
    return True


def columns_of_webs(webs, way):
    """For each web of a splitting its columns, place by place."""
    found = []
    ahead = [0] * len(way)
    for web in webs:
        columns = []
        for place, size in enumerate(web.sizes):
            lines = [line[ahead[place]:ahead[place] + size] for line in way[place].lines]
            columns.append(Table(web.prime, len(lines), size, lines))
            ahead[place] += size
        found.append(tuple(columns))
    return found


def lines_of_webs(webs, back):
    """For each web of a splitting its lines in the inverses of the way, place by place."""
    found = []
    ahead = [0] * len(back)
    for web in webs:
        lines = []
        for place, size in enumerate(web.sizes):
            some = back[place].lines[ahead[place]:ahead[place] + size]
            lines.append(Table(web.prime, size, back[place].wide, some))
            ahead[place] += size
        found.append(tuple(lines))
    return found


def summands(web):
    """The triples (root, into, onto) for each web of split_web: the maps from it to the web and back."""
    check_web(web)
    check_good(web.net)
    webs, way = split_web(web)
    back = map_back(way)
    return [(some.sizes, into, onto)
            for some, into, onto in zip(webs, columns_of_webs(webs, way), lines_of_webs(webs, back))]


def _are_triples(web, thing):
    if not isinstance(thing, list):
        return False
    for triple in thing:
        if not isinstance(triple, tuple) or len(triple) != 3 or not is_root(web.net, triple[0]):
            return False
    found = [root for root, into, onto in thing]
    return found == sorted(found)


def is_summands(web, thing):
    """Whether thing, which may be anything, is a list of triples as summands tells."""
    check_web(web)
    check_good(web.net)
    if not _are_triples(web, thing):
        return False
    sizes = tuple([sum([triple[0][place] for triple in thing]) for place in range(web.net.places)])
    if sizes != web.sizes:
        return False
    least = {triple[0]: least_web(web.net, web.prime, triple[0]) for triple in thing}
    for root, into, onto in thing:
        if not leads(least[root], web, into) or not leads(web, least[root], onto):
            return False
    # As many lines as columns: what is plain one way round is plain the other way round, too.
    for place, size in enumerate(web.sizes):
        way = beside([empty(web.prime, size, 0)] + [into[place] for root, into, onto in thing])
        back = over([empty(web.prime, 0, size)] + [onto[place] for root, into, onto in thing])
        if times(back, way) != plain(web.prime, size):
            return False
    return True
