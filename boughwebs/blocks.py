"""Blocks: two roots, and what joins them with one map to itself less; which kinds have more maps from a root."""

from itertools import combinations

from boughwebs.errors import NotSo
from boughwebs.joinings import check_few, joining_of_numbers, joinings, leading_twists, tidy_numbers
from boughwebs.kinds import check_kind, is_kind, kind_of_pairs, kind_row, kinds_of
from boughwebs.leasts import least_web, shown_least
from boughwebs.maps import behind, every_map, numbers_of_map, rest_web
from boughwebs.middles import layered_joining
from boughwebs.roots import check_good, check_root, form_ahead, is_root, pair_value, roots
from boughwebs.solving import inverse, inverse_of, rank
from boughwebs.splits import whole_of
from boughwebs.tables import empty, over
from boughwebs.webs import check_together


def root_forms(net):
    """For each root, in their order, the numbers that make pair_form of it and another row."""
    return [form_ahead(net, root) for root in roots(net)]


def maps_from_all(forms, kind):
    """How many maps lead into a web of the kind from the least web of each root, told by its form."""
    found = []
    for ahead in forms:
        many = 0
        for root, often in kind.items():
            value = sum([a * b for a, b in zip(ahead, root)])
            if value > 0:
                many += value * often
        found.append(many)
    return found


def is_nowhere_more(one, other):
    """Whether no number of one list is above that of the other."""
    return all([a <= b for a, b in zip(one, other)])


def first_more(net, one, other):
    """The triple (root, many, fewer) of the first root with more maps into one than into other; None if none has."""
    forms = root_forms(net)
    for root, many, fewer in zip(roots(net), maps_from_all(forms, one), maps_from_all(forms, other)):
        if many > fewer:
            return (root, many, fewer)
    return None


def bends_into(net, one, other):
    """Whether the kind one, surely a kind, bends into the other."""
    return kind_row(net, one) == kind_row(net, other) and first_more(net, one, other) is None


def _self_joinings(net, kind, known):
    """How many joinings a kind has with itself; what pairs of roots have is kept in known."""
    found = 0
    for one, many in kind.items():
        for other, often in kind.items():
            if (one, other) not in known:
                known[one, other] = max(0, 0 - pair_value(net, one, other))
            found += many * often * known[one, other]
    return found


def ends_of_block(outer, inner):
    """The kind of both roots, each once."""
    return kind_of_pairs([(outer, 1), (inner, 1)])


def is_block(net, thing):
    """Whether thing, which may be anything, is a triple (outer, inner, kind) that is a block."""
    check_good(net)
    if not isinstance(thing, tuple) or len(thing) != 3:
        return False
    outer, inner, kind = thing
    if not is_root(net, outer) or not is_root(net, inner) or not is_kind(net, kind):
        return False
    if pair_value(net, outer, inner) >= 0:
        return False
    ends = ends_of_block(outer, inner)
    if not bends_into(net, kind, ends):
        return False
    # Of one row, so that there is one map less where there is one joining less.
    return _self_joinings(net, kind, {}) == _self_joinings(net, ends, {}) - 1


def kinds_between(net, forms, outer, inner):
    """The kinds of all blocks with these two roots, which have joinings."""
    row = tuple([a + b for a, b in zip(outer, inner)])
    ends = ends_of_block(outer, inner)
    known = {}
    wanted = _self_joinings(net, ends, known) - 1
    most = maps_from_all(forms, ends)
    return [kind for kind in kinds_of(net, row)
            if _self_joinings(net, kind, known) == wanted and is_nowhere_more(maps_from_all(forms, kind), most)]


def blocks_between(net, outer, inner):
    """The kinds of all blocks with these two roots, in the order of kinds_of."""
    check_good(net)
    check_root(net, outer)
    check_root(net, inner)
    if pair_value(net, outer, inner) >= 0:
        return []
    return kinds_between(net, root_forms(net), outer, inner)


def _chosen(items, many):
    return [list(some) for some in combinations(items, many)]


def _choices(inner, kind):
    """All lists that have, for each root of the kind, as many maps into its least web as it comes often.

    Nearly all maps into a web of the kind layer it: those do that have no unwanted sum along any
    root, so that some of these lists, their maps over one another, do.
    """
    found = [[]]
    for root in sorted(kind):
        some = _chosen(every_map(inner, least_web(inner.net, inner.prime, root)), kind[root])
        found = [ahead + chosen for ahead in found for chosen in some]
    return found


def _back_to(rest, outer):
    """The map with an inverse from rest, of outer's sizes, to outer, which is alike to a least web; None if none is."""
    found = every_map(rest, outer)
    if len(found) == 1 and all([inverse(table) is not None for table in found[0]]):
        return found[0]
    return None


def _layers(outer, inner, web, chosen):
    """The maps into and onto that layer the web, the first one made of those chosen; None if it does not."""
    into = tuple([over([empty(web.prime, 0, size)] + [mapping[place] for mapping in chosen])
                  for place, size in enumerate(inner.sizes)])
    if not all([rank(table) == table.wide for table in into]):
        return None
    rest, onto = rest_web(inner, web, into)
    back = _back_to(rest, outer)
    return None if back is None else (into, behind(onto, back))


def _joining_through(outer, inner, kind):
    """A joining of outer to inner with a middle web of this kind, those of a block."""
    web = whole_of(outer.net, outer.prime, kind)
    for chosen in _choices(inner, kind):
        layers = _layers(outer, inner, web, chosen)
        if layers is not None:
            return layered_joining(web, outer, layers[0], layers[1])[0]
    return None


def _first_made_one(prime, numbers):
    """The numbers, so many times that the first one that is not 0 is 1."""
    many = inverse_of([number for number in numbers if number][0], prime)
    return [many * number for number in numbers]


def joining_of_block(outer, inner, kind):
    """What block_joining tells, of what surely are such webs and such a kind."""
    if 0 - pair_value(outer.net, outer.sizes, inner.sizes) == 1:
        return joinings(outer, inner)[0]
    numbers = numbers_of_map(_joining_through(outer, inner, kind))
    numbers = tidy_numbers(outer.prime, leading_twists(outer, inner), numbers)
    return joining_of_numbers(outer, inner, _first_made_one(outer.prime, numbers))


def block_joining(outer, inner, kind):
    """The tidy joining of outer to inner, beginning with 1, whose middle web is of this kind."""
    check_together(outer, inner)
    check_good(outer.net)
    check_kind(outer.net, kind)
    if shown_least(outer) is None or shown_least(inner) is None:
        raise NotSo("webs alike to least webs are wanted")
    if not is_block(outer.net, (outer.sizes, inner.sizes, kind)):
        raise NotSo("these do not make a block")
    check_few(outer, inner)
    return joining_of_block(outer, inner, kind)
