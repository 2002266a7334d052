"""Meshes: how the least web of a root leads into those of its successors, and on to that of its next root."""

from boughwebs.checks import is_number
from boughwebs.errors import BadKind, BadMaps, OtherNet
from boughwebs.kinds import check_kind
from boughwebs.leasts import least_web, shown_least
from boughwebs.loom import loom, next_root, spots_behind, successors
from boughwebs.maps import behind, check_numbers, every_map, leads, map_back, numbers_of_map, plain_map, rest_web
from boughwebs.maps import sum_of_maps
from boughwebs.nets import check_net
from boughwebs.roots import check_good, check_root, form_ahead, is_root, roots
from boughwebs.solving import combination, rank
from boughwebs.tables import beside, check_prime, empty, over, times
from boughwebs.webs import check_web, sum_or_bare


def _check_least(net, prime, root):
    check_good(net)
    check_prime(prime)
    check_root(net, root)


def _webs_behind(net, prime, root):
    """The least webs of the successors, in their order."""
    return [least_web(net, prime, other) for other in successors(net, root)]


def middle_of_mesh(net, prime, root):
    """The sum of the least webs of the successors, in their order."""
    _check_least(net, prime, root)
    return sum_or_bare(net, prime, _webs_behind(net, prime, root))


def _maps_into(one, webs):
    """The map from one into each of its successors' webs: there is just one, but for multiples."""
    return [every_map(one, web)[0] for web in webs]


def _one_over_another(one, found):
    """The map from one into the sum of the webs into which these maps lead."""
    return tuple([over([empty(one.prime, 0, size)] + [mapping[place] for mapping in found])
                  for place, size in enumerate(one.sizes)])


def mesh_of(net, prime, root):
    """The pair (into, onto) of maps from the least web into the middle, and from that onto the next least web.

    What the first map leaves of the middle is alike to the next root's least web.
    """
    one = least_web(net, prime, root)
    webs = _webs_behind(net, prime, root)
    into = _one_over_another(one, _maps_into(one, webs))
    if next_root(net, root) is None:
        return (into, None)
    rest, onto = rest_web(one, sum_or_bare(net, prime, webs), into)
    return (into, behind(onto, map_back(shown_least(rest))))


def _is_onto(middle, last, into, onto):
    """Whether the maps into the middle and from it onto the last web make a mesh, but for the first's ranks."""
    if not leads(middle, last, onto):
        return False
    if not all([rank(table) == table.tall for table in onto]):
        return False
    return all([times(second, first) == empty(first.prime, second.tall, first.wide)
                for first, second in zip(into, onto)])


def is_mesh(net, prime, root, thing):
    """Whether thing, which may be anything, is such a pair as mesh_of tells."""
    _check_least(net, prime, root)
    if not isinstance(thing, tuple) or len(thing) != 2:
        return False
    into, onto = thing
    middle = middle_of_mesh(net, prime, root)
    if not leads(least_web(net, prime, root), middle, into):
        return False
    last = next_root(net, root)
    if last is None:
        return onto is None and all([rank(table) == table.tall for table in into])
    if not all([rank(table) == table.wide for table in into]):
        return False
    return _is_onto(middle, least_web(net, prime, last), into, onto)


def _through(one, webs, web, mapping):
    """The map from the sum of the successors' webs that makes mapping behind that of the mesh; None if none does."""
    into = _maps_into(one, webs)
    found = [every_map(other, web) for other in webs]
    columns = [numbers_of_map(behind(into[k], some)) for k, some_maps in enumerate(found) for some in some_maps]
    many = combination(one.prime, columns, numbers_of_map(mapping))
    if many is None:
        return None
    parts = []
    for other, some_maps in zip(webs, found):
        parts.append(sum_of_maps(other, web, some_maps, many[:len(some_maps)]))
        many = many[len(some_maps):]
    return tuple([beside([empty(one.prime, size, 0)] + [part[place] for part in parts])
                  for place, size in enumerate(web.sizes)])


def _back(one, web, mapping):
    """The map from web that makes plain behind mapping."""
    found = every_map(web, one)
    columns = [numbers_of_map(behind(mapping, some)) for some in found]
    return sum_of_maps(web, one, found, combination(one.prime, columns, numbers_of_map(plain_map(one))))


def through_or_back(net, prime, root, web, mapping):
    """("through", g), g a map from the middle of the mesh that makes mapping, or ("back", r), r undoing mapping."""
    check_net(net)
    check_web(web)
    _check_least(net, prime, root)
    if web.net != net or web.prime != prime:
        raise OtherNet("the web is not of this net and prime")
    one = least_web(net, prime, root)
    if not leads(one, web, mapping):
        raise BadMaps("a map from the least web to the web is wanted")
    webs = _webs_behind(net, prime, root)
    for other in [one] + webs:
        check_numbers(other, web)
    found = _through(one, webs, web, mapping)
    if found is not None:
        return ("through", found)
    return ("back", _back(one, web, mapping))


def counts_of_kind(net, kind):
    """How many maps lead from each root's least web to a web of this kind."""
    check_good(net)
    check_kind(net, kind)
    found = {}
    for root in sorted(roots(net)):
        ahead = form_ahead(net, root)
        values = [(sum([a * b for a, b in zip(ahead, other)]), many) for other, many in kind.items()]
        found[root] = sum([value * many for value, many in values if value > 0])
    return found


def _are_counts(net, thing):
    if not isinstance(thing, dict) or len(thing) != len(roots(net)):
        return False
    return all([is_root(net, root) and is_number(many) and many >= 0 for root, many in thing.items()])


def kind_of_counts(net, counts):
    """The kind with these counts; None if there is none.

    A root is in it as often as maps lead from its least web that do not go through its mesh.
    """
    check_good(net)
    if not _are_counts(net, counts):
        raise BadKind("a dict with all roots is wanted, and with numbers from 0 on")
    spots = {(place, turn): root for place, turn, root in loom(net)}
    found = {}
    for place, turn in list(spots):
        ahead = [spots[spot] for spot in spots_behind(net, place, turn) if spot in spots]
        many = counts[spots[place, turn]] - sum([counts[other] for other in ahead])
        if (place, turn + 1) in spots:
            many += counts[spots[place, turn + 1]]
        if many < 0:
            return None
        if many > 0:
            found[spots[place, turn]] = many
    return {root: found[root] for root in sorted(found)}
