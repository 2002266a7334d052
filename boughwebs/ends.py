"""What the ends of bars tell: maps and joinings, kinds, windows and mirrors."""

from boughwebs.bars import arrows_between, bars_of_line_kind, check_bars_to, check_line, check_spots, covers, is_bar_to
from boughwebs.bars import spots_of
from boughwebs.errors import BadBar, TooMany
from boughwebs.kinds import check_kind, kind_of_pairs
from boughwebs.mirrors import check_end
from boughwebs.nets import Net
from boughwebs.roots import pair_value
from boughwebs.webs import Web

MOST_BARS = 300


def _check_two(net, one, other):
    check_line(net)
    for bar in (one, other):
        if not is_bar_to(bar, net.places - 1):
            raise BadBar("a pair of spots is wanted, the first one at most the second")


def _has_map(net, one, other):
    """Whether the common spots are what one leads on and other is led to, at both of their ends."""
    start, stop = max(one[0], other[0]), min(one[1], other[1])
    if start > stop:
        return False
    for _, tail, head in arrows_between(net, 0, net.places - 1):
        inside = [covers((start, stop), spot) for spot in (tail, head)]
        # An arrow out of the common spots may lead to one's alone, an arrow into them come from other's alone.
        if inside == [True, False] and covers(other, head):
            return False
        if inside == [False, True] and covers(one, tail):
            return False
    return True


def bar_maps(net, one, other):
    """How many maps lead from one bar's web to the other's: 0 or 1."""
    _check_two(net, one, other)
    return 1 if _has_map(net, one, other) else 0


def bar_row(net, bar):
    """The row with 1 at the places that the bar covers, 0 elsewhere."""
    order = spots_of(net)
    return tuple([1 if covers(bar, order.index(place)) else 0 for place in range(net.places)])


def bar_joinings(net, one, other):
    """How many joinings there are of one bar's web to the other's: 0 or 1."""
    return bar_maps(net, one, other) - pair_value(net, bar_row(net, one), bar_row(net, other))


def kind_of_bars(net, bars):
    """The kind that has the row of each bar as often as it comes."""
    check_line(net)
    check_bars_to(bars, net.places - 1)
    return kind_of_pairs([(bar_row(net, bar), 1) for bar in bars])


def bars_of_kind(net, kind):
    """The bars of which it is the kind."""
    check_line(net)
    check_kind(net, kind)
    if sum(kind.values()) > MOST_BARS:
        raise TooMany(MOST_BARS)
    return bars_of_line_kind(net, kind)


def window(web, start, stop):
    """The web between these spots, on a net of them alone, in their order."""
    check_spots(web, start, stop)
    known = arrows_between(web.net, start, stop)
    net = Net(stop - start + 1, [(tail - start, head - start) for _, tail, head in known])
    order = spots_of(web.net)
    sizes = tuple([web.sizes[order[spot]] for spot in range(start, stop + 1)])
    return Web(net, web.prime, sizes, [web.tables[at] for at, _, _ in known])


def _exchanged(spot, one, other):
    return other if spot == one else one if spot == other else spot


def mirrored_bars(net, place, bars):
    """The bars of the web mirrored at the place."""
    check_line(net)
    check_end(net, place)
    check_bars_to(bars, net.places - 1)
    spot = spots_of(net).index(place)
    found = []
    for start, stop in bars:
        if (start, stop) != (spot, spot):
            last = _exchanged(stop, spot - 1, spot) if start < spot else stop
            first = _exchanged(start, spot, spot + 1) if stop > spot else start
            found.append((first, last))
    return tuple(sorted(found))
