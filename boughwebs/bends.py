"""Bending: which kinds bend into which, by chains of blocks, and what shows it for webs."""

from boughwebs.blocks import bends_into, ends_of_block, first_more, is_block, is_nowhere_more, joining_of_block
from boughwebs.blocks import kinds_between, maps_from_all, root_forms
from boughwebs.checks import is_list, is_same
from boughwebs.errors import NotSo, TooMany
from boughwebs.joinings import joins
from boughwebs.kinds import check_kind, kind_of_pairs, kind_row, kinds_of
from boughwebs.maps import behind, is_alike, map_back, plain_map
from boughwebs.middles import joined
from boughwebs.roots import check_good, pair_value, roots
from boughwebs.splits import columns_of_webs, kind_of, split_web
from boughwebs.tables import beside, corner, empty
from boughwebs.webs import Web, check_together, sum_of, sum_or_bare

MOST_FOR_STEPS = 120


def _check_both(net, one, other):
    check_good(net)
    check_kind(net, one)
    check_kind(net, other)


def bends(net, one, other):
    """Whether the kind one bends into the other."""
    _check_both(net, one, other)
    return bends_into(net, one, other)


def barred_by(net, one, other):
    """The first root with more maps into one, and both numbers; None if one bends into other."""
    _check_both(net, one, other)
    if kind_row(net, one) != kind_row(net, other):
        raise NotSo("the kinds are not of one row")
    return first_more(net, one, other)


def without_roots(kind, roots_out):
    """The kind without these roots, each taken out once; None if one is not there."""
    found = {root: kind[root] for root in kind}
    for root in roots_out:
        if found.get(root, 0) == 0:
            return None
        found[root] -= 1
    return {root: found[root] for root in found if found[root]}


def _taken_back(kind, block):
    """The kind behind the block, taken back; None if outer or inner is not there."""
    outer, inner, more = block
    rest = without_roots(kind, [outer, inner])
    if rest is None:
        return None
    return kind_of_pairs(list(rest.items()) + list(more.items()))


def _kinds_along(net, other, chain):
    """The list that chain_kinds tells; None if chain is no list of blocks that can be taken back."""
    if not is_list(chain):
        return None
    found = [kind_of_pairs(list(other.items()))]
    for block in chain:
        if not is_block(net, block):
            return None
        after = _taken_back(found[-1], block)
        if after is None:
            return None
        found.append(after)
    return found


def chain_kinds(net, other, chain):
    """Other and the kinds behind each block of the chain."""
    check_good(net)
    check_kind(net, other)
    found = _kinds_along(net, other, chain)
    if found is None:
        raise NotSo("a list of blocks is wanted that can be taken back from the kind")
    return found


def is_bend_chain(net, one, other, thing):
    """Whether thing, which may be anything, is a chain from other to one."""
    _check_both(net, one, other)
    if not isinstance(thing, list):
        return False
    found = _kinds_along(net, other, thing)
    return found is not None and found[-1] == one


def _block_back(net, forms, least, kind, known):
    """A block of the kind behind which there still are everywhere at least so many maps.

    The blocks between two roots are kept in known.
    """
    most = maps_from_all(forms, kind)
    for outer in kind:
        for inner in kind:
            if pair_value(net, outer, inner) >= 0:
                continue
            if (outer, inner) not in known:
                known[outer, inner] = kinds_between(net, forms, outer, inner)
            ends = maps_from_all(forms, ends_of_block(outer, inner))
            left = [a - b - c for a, b, c in zip(most, ends, least)]
            for more in known[outer, inner]:
                if all([a + b >= 0 for a, b in zip(left, maps_from_all(forms, more))]):
                    return (outer, inner, {root: more[root] for root in more})
    return None


def _chain_between(net, one, other):
    """A chain from other to one, which bends into other."""
    forms = root_forms(net)
    least = maps_from_all(forms, one)
    known = {}
    found = []
    # Roots ascending: equal kinds may be told in unlike orders, and have equal chains.
    kind = kind_of_pairs(list(other.items()))
    while kind != one:
        block = _block_back(net, forms, least, kind, known)
        kind = _taken_back(kind, block)
        found.append(block)
    return found


def bend_chain(net, one, other):
    """A chain from other to one; [] if they are equal."""
    _check_both(net, one, other)
    if not bends_into(net, one, other):
        raise NotSo("the one kind does not bend into the other")
    kinds_of(net, kind_row(net, one))
    return _chain_between(net, one, other)


def bending_steps(net, row):
    """The pairs of indexes of kinds of this row of which one bends into the other, and no third lies between."""
    kinds = kinds_of(net, row)
    if len(kinds) > MOST_FOR_STEPS:
        raise TooMany(MOST_FOR_STEPS)
    forms = root_forms(net)
    told = [maps_from_all(forms, kind) for kind in kinds]
    above = [[k for k in range(len(kinds)) if k != at and is_nowhere_more(one, told[k])]
             for at, one in enumerate(told)]
    found = []
    for at, some in enumerate(above):
        beyond = {k: True for between in some for k in above[between]}
        found = found + [(at, k) for k in some if k not in beyond]
    return found


def _are_webs_of(web, some):
    return all([isinstance(other, Web) and other.net == web.net and other.prime == web.prime for other in some])


def _web_behind(web, step):
    """The web that stands behind this step of a bending, if web stands ahead of it; None if it is no such step."""
    if not isinstance(step, tuple) or len(step) != 5 or not _are_webs_of(web, step[:3]):
        return None
    rest, outer, inner, joining, turn = step
    sizes = tuple([a + b + c for a, b, c in zip(rest.sizes, inner.sizes, outer.sizes)])
    if sizes != web.sizes or not joins(outer, inner, joining):
        return None
    if not is_alike(sum_of([rest, inner, outer]), web, turn):
        return None
    return sum_of([rest, joined(outer, inner, joining)])


def _is_bending(one, other, thing):
    if not isinstance(thing, tuple) or len(thing) != 2 or not isinstance(thing[0], list):
        return False
    steps, way = thing
    web = other
    for step in steps:
        web = _web_behind(web, step)
        if web is None:
            return False
    return is_alike(web, one, way)


def is_bending(one, other, thing):
    """Whether thing, which may be anything, is a bending of one into other."""
    check_together(one, other)
    return _is_bending(one, other, thing)


def _gathered(web, columns):
    """The map that has these columns, of several webs each, beside one another."""
    return tuple([beside([empty(web.prime, size, 0)] + [some[place] for some in columns])
                  for place, size in enumerate(web.sizes)])


def _step_and_rest(web, webs, way, block):
    """The step of a bending that takes the block back, the web behind it, and a splitting of that."""
    outer_root, inner_root, kind = block
    columns = columns_of_webs(webs, way)
    sizes = [some.sizes for some in webs]
    inner, outer = sizes.index(inner_root), sizes.index(outer_root)
    left = [k for k in range(len(webs)) if k not in (inner, outer)]
    rest = sum_or_bare(web.net, web.prime, [webs[k] for k in left])
    turn = _gathered(web, [columns[k] for k in left + [inner, outer]])
    joining = joining_of_block(webs[outer], webs[inner], kind)
    middle = joined(webs[outer], webs[inner], joining)
    more, part = split_web(middle)
    behind_way = tuple([corner([one, other]) for one, other in zip(plain_map(rest), part)])
    step = (rest, webs[outer], webs[inner], joining, turn)
    return (step, sum_of([rest, middle]), [webs[k] for k in left] + list(more), behind_way)


def _way_to(one, webs, way):
    """The map to one from the web of which this is a splitting, into the same least webs as one's."""
    others, other_way = split_web(one)
    columns = columns_of_webs(webs, way)
    order = [at for _, at in sorted([(some.sizes, k) for k, some in enumerate(webs)])]
    found = _gathered(one, [columns[at] for at in order])
    return behind(map_back(found), other_way)


def _shown(one, other, chain):
    """The bending of one into other that takes the blocks of the chain back."""
    web = other
    webs, way = split_web(web)
    steps = []
    for block in chain:
        step, web, webs, way = _step_and_rest(web, webs, way, block)
        steps.append(step)
    return (steps, _way_to(one, webs, way))


def shown_bending(one, other):
    """("bending", (steps, way)), or ("root", root, many, fewer) with more maps into one than into other."""
    check_together(one, other)
    check_good(one.net)
    if one.sizes != other.sizes:
        raise NotSo("webs of the same sizes are wanted")
    kinds_of(one.net, one.sizes)
    first, second = kind_of(one), kind_of(other)
    told = first_more(one.net, first, second)
    if told is not None:
        return ("root",) + told
    return ("bending", _shown(one, other, _chain_between(one.net, first, second)))


def is_shown_bending(one, other, thing):
    """Whether thing, which may be anything, is such a tuple as shown_bending tells."""
    check_together(one, other)
    check_good(one.net)
    if one.sizes != other.sizes or not isinstance(thing, tuple):
        return False
    if len(thing) == 2 and is_same("bending", thing[0]):
        return _is_bending(one, other, thing[1])
    forms = root_forms(one.net)
    firsts, seconds = maps_from_all(forms, kind_of(one)), maps_from_all(forms, kind_of(other))
    told = [("root", root, many, fewer) for root, many, fewer in zip(roots(one.net), firsts, seconds) if many > fewer]
    return any([is_same(some, thing) for some in told])
