"""The loom: the roots of a good net, place by place and turn by turn, and how maps lead among them."""

from boughwebs.checks import is_list
from boughwebs.errors import NotSo
from boughwebs.leasts import last_web
from boughwebs.nets import sink_order
from boughwebs.roots import check_good, check_root, form_ahead, is_root, other_ends, roots, shape
from boughwebs.words import is_word, rows_further, rows_met, unit_rows

ROUNDS_OF_ARMS = {6: 12, 7: 18, 8: 30}


def loom(net):
    """The triples (place, turn, root) of the rows met at places, up to the first one there with a number below 0."""
    check_good(net)
    order = sink_order(net)
    ends = other_ends(net)
    rows = unit_rows(net)
    turns = [0] * net.places
    out = {}
    found = []
    while len(out) < net.places:
        for place in order:
            if min(rows[place]) < 0:
                out[place] = True
            elif place not in out:
                found.append((place, turns[place], rows[place]))
                turns[place] += 1
            rows = rows_further(ends, rows, place)
    return found


def loom_order(net):
    """The roots alone, in the order of the loom."""
    return [root for place, turn, root in loom(net)]


def _spots(net):
    """The spots of all roots, in the order of the loom."""
    return {root: (place, turn) for place, turn, root in loom(net)}


def _roots_at(spots, wanted):
    """The roots at the wanted ones of these spots, in the order of the loom."""
    return [root for root, spot in spots.items() if spot in wanted]


def spot_of(net, root):
    """The pair (place, turn) at which the root stands in the loom."""
    check_good(net)
    check_root(net, root)
    return _spots(net)[root]


def turn_counts(net):
    """How many roots each place has in the loom."""
    places = [place for place, turn, root in loom(net)]
    return tuple([places.count(place) for place in range(net.places)])


def partners(net):
    """For each place the one whose last web has the place's last root as sizes."""
    last = {place: root for place, turn, root in loom(net)}
    ends = {last_web(net, 2, place).sizes: place for place in range(net.places)}
    return tuple([ends[last[place]] for place in range(net.places)])


def round_number(net):
    """How often shifted_row has to be done until it leads each row to itself."""
    check_good(net)
    name, places = shape(net)
    if name == "line":
        return places + 1
    return 2 * places - 2 if name == "fork" else ROUNDS_OF_ARMS[places]


def _root_beside(net, root, more):
    check_good(net)
    check_root(net, root)
    spots = _spots(net)
    place, turn = spots[root]
    found = _roots_at(spots, [(place, turn + more)])
    return found[0] if found else None


def next_root(net, root):
    """The root of the same place one turn later; None if there is none."""
    return _root_beside(net, root, 1)


def last_root(net, root):
    """The root of the same place one turn earlier; None if there is none."""
    return _root_beside(net, root, -1)


def spots_behind(net, place, turn):
    """The spots of the successors of a root at this spot, and perhaps some at which no root stands."""
    along = [(tail, turn) for tail, head in net.arrows if head == place]
    return along + [(head, turn + 1) for tail, head in net.arrows if tail == place]


def spots_ahead(net, place, turn):
    """The spots of the predecessors of a root at this spot, and perhaps some at which no root stands."""
    along = [(head, turn) for tail, head in net.arrows if tail == place]
    return along + [(tail, turn - 1) for tail, head in net.arrows if head == place]


def successors(net, root):
    """The roots to which the loom leads from this one, in its order."""
    check_good(net)
    check_root(net, root)
    spots = _spots(net)
    place, turn = spots[root]
    return _roots_at(spots, spots_behind(net, place, turn))


def predecessors(net, root):
    """The roots that have this one as a successor, in the order of the loom."""
    check_good(net)
    check_root(net, root)
    spots = _spots(net)
    place, turn = spots[root]
    return _roots_at(spots, spots_ahead(net, place, turn))


def maps_ahead(net, root):
    """How many maps lead from the root's least web to that of each other root, where there are some."""
    check_good(net)
    check_root(net, root)
    ahead = form_ahead(net, root)
    many = {other: sum([a * b for a, b in zip(ahead, other)]) for other in sorted(roots(net))}
    return {other: many[other] for other in many if many[other] > 0}


def stands_before(net, one, other):
    """Whether successors of successors of one lead to other; one stands before itself."""
    check_good(net)
    check_root(net, one)
    check_root(net, other)
    spots = _spots(net)
    led = {spots[one]: True}
    for place, turn in list(spots.values()):
        if (place, turn) in led:
            for spot in spots_behind(net, place, turn):
                led[spot] = True
    return spots[other] in led


def is_order(net, thing):
    """Whether thing, which may be anything, has all roots, without maps from a later to an earlier one."""
    check_good(net)
    if not is_list(thing) or len(thing) != len(roots(net)):
        return False
    if not all([is_root(net, root) for root in thing]):
        return False
    # A root that comes twice has a map to itself, from the later place to the earlier one.
    for at, root in enumerate(thing):
        ahead = form_ahead(net, root)
        if any([sum([a * b for a, b in zip(ahead, other)]) > 0 for other in thing[:at]]):
            return False
    return True


def order_of_word(net, word):
    """The roots met at the places of a word in which each place comes as often as in the loom."""
    counts = turn_counts(net)
    if not is_word(net, word) or tuple([word.count(place) for place in range(net.places)]) != counts:
        raise NotSo("a word is wanted in which each place comes as often as in the loom")
    return rows_met(net, word)


def word_of_order(net, order):
    """The places of the roots of an order of maps."""
    if not is_order(net, order):
        raise NotSo("all roots are wanted, without maps from a later to an earlier one")
    spots = _spots(net)
    return [spots[root][0] for root in order]
