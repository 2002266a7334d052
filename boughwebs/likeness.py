"""Likeness: whether two webs are alike, whether one is a summand of the other, and what shows it."""

from boughwebs.checks import is_same
from boughwebs.maps import behind, is_alike, leads, map_back, plain_map
from boughwebs.roots import check_good
from boughwebs.splits import columns_of_webs, kind_of, lines_of_webs, split_web
from boughwebs.tables import beside, empty, over
from boughwebs.webs import check_together


def _check_both(one, other):
    check_together(one, other)
    check_good(one.net)


def _first_unlike(one, other):
    """The tuple of the least root that is not equally often in both kinds; None if they are equal."""
    for root in sorted(list(one) + list(other)):
        if one.get(root, 0) != other.get(root, 0):
            return ("root", root, one.get(root, 0), other.get(root, 0))
    return None


def _first_more(one, other):
    """The tuple of the least root that is more often in the kind one than in other; None if there is none."""
    for root in sorted(one):
        if one[root] > other.get(root, 0):
            return ("root", root, one[root], other.get(root, 0))
    return None


def alike(one, other):
    """("map", map) with an inverse, or ("root", root, many, more) with a root that tells the webs apart."""
    _check_both(one, other)
    told = _first_unlike(kind_of(one), kind_of(other))
    if told is not None:
        return told
    return ("map", behind(map_back(split_web(one)[1]), split_web(other)[1]))


def is_alike_told(one, other, thing):
    """Whether thing, which may be anything, is such a tuple as alike tells."""
    _check_both(one, other)
    told = _first_unlike(kind_of(one), kind_of(other))
    if told is not None:
        return is_same(told, thing)
    if not isinstance(thing, tuple) or len(thing) != 2 or not is_same("map", thing[0]):
        return False
    return is_alike(one, other, thing[1])


def _matching_indexes(one, other):
    """For each of the webs of one the index of a web of other's with the same sizes, none of them twice."""
    found = []
    for web in one:
        found.append([k for k, some in enumerate(other) if some.sizes == web.sizes and k not in found][0])
    return found


def summand(one, other):
    """("maps", into, onto) that show one as a summand of other, or ("root", root, many, fewer)."""
    _check_both(one, other)
    told = _first_more(kind_of(one), kind_of(other))
    if told is not None:
        return told
    webs, way = split_web(one)
    others, other_way = split_web(other)
    indexes = _matching_indexes(webs, others)
    columns = columns_of_webs(others, other_way)
    lines = lines_of_webs(others, map_back(other_way))
    into = [beside([empty(one.prime, size, 0)] + [columns[k][place] for k in indexes])
            for place, size in enumerate(other.sizes)]
    onto = [over([empty(one.prime, 0, size)] + [lines[k][place] for k in indexes])
            for place, size in enumerate(other.sizes)]
    return ("maps", behind(map_back(way), tuple(into)), behind(tuple(onto), way))


def is_summand_told(one, other, thing):
    """Whether thing, which may be anything, is such a tuple as summand tells."""
    _check_both(one, other)
    told = _first_more(kind_of(one), kind_of(other))
    if told is not None:
        return is_same(told, thing)
    if not isinstance(thing, tuple) or len(thing) != 3 or not is_same("maps", thing[0]):
        return False
    if not leads(one, other, thing[1]) or not leads(other, one, thing[2]):
        return False
    return behind(thing[1], thing[2]) == plain_map(one)


def shared_kind(one, other):
    """Each root as often as it is in the kinds of both."""
    _check_both(one, other)
    first, second = kind_of(one), kind_of(other)
    return {root: min(first[root], second[root]) for root in sorted(first) if root in second}
