"""Middle webs: what a joining makes of two webs, and what shows that a web is layered so."""

from boughwebs.checks import is_same
from boughwebs.errors import BadMaps, BadWeb, NotSo
from boughwebs.joinings import check_few, check_joining, how_many_joinings, joining_of_numbers, joinings, joins
from boughwebs.joinings import leading_twists, minus_joining, no_joining, tidy_numbers
from boughwebs.kinds import sum_kind
from boughwebs.maps import behind, check_numbers, every_map, is_alike, leads, numbers_of_map
from boughwebs.probes import probes_both, slack_or_probe, value_at
from boughwebs.roots import check_good
from boughwebs.solving import rank, reduced, solved, sparse
from boughwebs.splits import check_turns, kind_of, multiples
from boughwebs.tables import GREATEST, beside, empty, minus, over, plain, times
from boughwebs.webs import Web, check_all, check_together


def _middle_sizes(one, other):
    """The sizes of middle webs; BadWeb("sizes") if a room is above 60."""
    sizes = tuple([a + b for a, b in zip(other.sizes, one.sizes)])
    if max(sizes) > GREATEST:
        raise BadWeb("sizes")
    return sizes


def joined(one, other, joining):
    """What middle_web tells, of what surely is a joining."""
    sizes = _middle_sizes(one, other)
    tables = []
    for first, second, table in zip(one.tables, other.tables, joining):
        below = beside([empty(one.prime, first.tall, second.wide), first])
        tables.append(over([beside([second, table]), below]))
    return Web(one.net, one.prime, sizes, tables)


def middle_web(one, other, joining):
    """At each place other's coordinates ahead of one's; the joining leads from one's to other's."""
    check_together(one, other)
    check_joining(one, other, joining)
    return joined(one, other, joining)


def _ends_of_middle(one, other):
    """What middle_maps tells: it is the same for all joinings."""
    into = [over([plain(one.prime, b), empty(one.prime, a, b)]) for a, b in zip(one.sizes, other.sizes)]
    onto = [beside([empty(one.prime, a, b), plain(one.prime, a)]) for a, b in zip(one.sizes, other.sizes)]
    return (tuple(into), tuple(onto))


def middle_maps(one, other, joining):
    """The map from other into the middle web, and the one from that onto one."""
    check_together(one, other)
    check_joining(one, other, joining)
    _middle_sizes(one, other)
    return _ends_of_middle(one, other)


def _check_layered(one, other, web, into, onto):
    """BadMaps for into, for onto, unless these are such maps, NotSo unless they layer the web."""
    check_all([one, other, web])
    if not leads(other, web, into) or not leads(web, one, onto):
        raise BadMaps("a map from other to the web and one from the web to one are wanted")
    for size, first, second in zip(web.sizes, into, onto):
        if first.wide + second.tall != size or rank(first) != first.wide or rank(second) != second.tall:
            raise NotSo("the maps do not layer the web")
        if times(second, first) != empty(web.prime, second.tall, first.wide):
            raise NotSo("the maps do not layer the web")


def layered_joining(web, one, into, onto):
    """The pair (joining, way) of joining_of, of maps that surely layer the web."""
    lifts = [solved(table, plain(web.prime, table.tall)) for table in onto]
    way = tuple([beside([first, second]) for first, second in zip(into, lifts)])
    found = []
    for at, (tail, head) in enumerate(web.net.arrows):
        led = minus(times(web.tables[at], lifts[tail]), times(lifts[head], one.tables[at]))
        found.append(solved(into[head], led))
    return (tuple(found), way)


def joining_of(one, other, web, into, onto):
    """The joining whose middle web is alike to the layered web, and the way from that to the web."""
    _check_layered(one, other, web, into, onto)
    return layered_joining(web, one, into, onto)


def is_joining_of(one, other, web, into, onto, thing):
    """Whether thing, which may be anything, is such a pair as joining_of tells."""
    _check_layered(one, other, web, into, onto)
    if not isinstance(thing, tuple) or len(thing) != 2 or not joins(one, other, thing[0]):
        return False
    joining, way = thing
    if not is_alike(joined(one, other, joining), web, way):
        return False
    first, second = _ends_of_middle(one, other)
    return behind(first, way) == into and behind(way, onto) == second


def _check_pulled(one, other, joining, web, mapping):
    check_all([one, other, web])
    check_joining(one, other, joining)
    if not leads(web, one, mapping):
        raise BadMaps("a map from the web to one is wanted")


def _check_pushed(one, other, joining, web, mapping):
    check_all([one, other, web])
    check_joining(one, other, joining)
    if not leads(other, web, mapping):
        raise BadMaps("a map from other to the web is wanted")


def _pulled_by(joining, web, mapping):
    return tuple([times(table, mapping[tail]) for table, (tail, head) in zip(joining, web.net.arrows)])


def _pushed_by(joining, web, mapping):
    return tuple([times(mapping[head], table) for table, (tail, head) in zip(joining, web.net.arrows)])


def pulled(one, other, joining, web, mapping):
    """The joining of web to other that the map from web to one makes."""
    _check_pulled(one, other, joining, web, mapping)
    return _pulled_by(joining, web, mapping)


def pushed(one, other, joining, web, mapping):
    """The joining of one to web that the map from other to web makes."""
    _check_pushed(one, other, joining, web, mapping)
    return _pushed_by(joining, web, mapping)


def _is_barred(one, other, value, thing):
    """Whether thing, which may be anything, is a probe of both webs with a value at this joining that is not 0."""
    return probes_both(one, other, thing) and value_at(thing, value) % one.prime != 0


def lifted(one, other, joining, web, mapping):
    """("map", m), m a map from web to the middle web above mapping, or ("probe", probe) that bars it."""
    _check_pulled(one, other, joining, web, mapping)
    _middle_sizes(one, other)
    check_few(web, other)
    name, found = slack_or_probe(web, other, _pulled_by(joining, web, mapping))
    if name == "probe":
        return (name, found)
    return ("map", tuple([over([first, second]) for first, second in zip(found, mapping)]))


def is_lifted(one, other, joining, web, mapping, thing):
    """Whether thing, which may be anything, is such a tuple as lifted tells."""
    _check_pulled(one, other, joining, web, mapping)
    _middle_sizes(one, other)
    if not isinstance(thing, tuple) or len(thing) != 2:
        return False
    if is_same("probe", thing[0]):
        return _is_barred(web, other, _pulled_by(joining, web, mapping), thing[1])
    if not is_same("map", thing[0]) or not leads(web, joined(one, other, joining), thing[1]):
        return False
    return behind(thing[1], _ends_of_middle(one, other)[1]) == mapping


def spread(one, other, joining, web, mapping):
    """("map", m), m a map from the middle web to web that is mapping on other, or ("probe", probe) that bars it."""
    _check_pushed(one, other, joining, web, mapping)
    _middle_sizes(one, other)
    check_few(one, web)
    value = _pushed_by(joining, web, mapping)
    # The slack stands beside the map, so that its twist has to take away what the map makes of the joining.
    name, found = slack_or_probe(one, web, minus_joining(no_joining(one, web), value))
    if name == "probe":
        return (name, found)
    return ("map", tuple([beside([first, second]) for first, second in zip(mapping, found)]))


def is_spread(one, other, joining, web, mapping, thing):
    """Whether thing, which may be anything, is such a tuple as spread tells."""
    _check_pushed(one, other, joining, web, mapping)
    _middle_sizes(one, other)
    if not isinstance(thing, tuple) or len(thing) != 2:
        return False
    if is_same("probe", thing[0]):
        return _is_barred(one, web, _pushed_by(joining, web, mapping), thing[1])
    if not is_same("map", thing[0]) or not leads(joined(one, other, joining), web, thing[1]):
        return False
    return behind(_ends_of_middle(one, other)[0], thing[1]) == mapping


def count_lost(one, other, joining, web):
    """How many maps from web to one are lost on the way to the middle web.

    The rank of the values of probes at the pulled joinings is that of these up to slack.
    """
    check_all([one, other, web])
    check_joining(one, other, joining)
    check_few(web, other)
    check_numbers(web, one)
    leading = leading_twists(web, other)
    found = []
    for mapping in every_map(web, one):
        found.append(tidy_numbers(web.prime, leading, numbers_of_map(_pulled_by(joining, web, mapping))))
    return len(reduced(web.prime, sparse(found)))


def _sum_of_joinings(one, other, found, many):
    """The sum of these joinings of one to other, each so often."""
    numbers = numbers_of_map(no_joining(one, other))
    for joining, often in zip(found, many):
        if often:
            numbers = [a + often * b for a, b in zip(numbers, numbers_of_map(joining))]
    return joining_of_numbers(one, other, numbers)


def middle_kinds(one, other):
    """The pairs (kind, many) of the kinds of all middle webs, and of how many joinings, up to slack, each comes."""
    check_together(one, other)
    check_good(one.net)
    _middle_sizes(one, other)
    check_few(one, other)
    check_turns(one.prime, how_many_joinings(one, other))
    some = joinings(one, other)
    counts = {tuple(sorted(sum_kind(one.net, [kind_of(one), kind_of(other)]).items())): 1}
    for many in multiples(one.prime, len(some)):
        # Multiples of a joining have middle webs alike to its own.
        kind = kind_of(joined(one, other, _sum_of_joinings(one, other, some, many)))
        key = tuple(sorted(kind.items()))
        counts[key] = counts.get(key, 0) + one.prime - 1
    return [({root: number for root, number in key}, counts[key]) for key in sorted(counts)]
