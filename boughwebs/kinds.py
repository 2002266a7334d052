"""Kinds on good nets: which roots, each how often; maps and joinings told by the form."""

from boughwebs.checks import is_list, is_number
from boughwebs.errors import BadKind, BadRow, TooMany
from boughwebs.nets import check_row, sink_order, unit_row
from boughwebs.roots import around, check_good, form_ahead, is_root, mirrored_row, roots

MOST_KINDS = 3000


def _are_counted(net, thing):
    if not isinstance(thing, dict):
        return False
    return all([is_root(net, root) and is_number(many) and many > 0 for root, many in thing.items()])


def is_kind(net, thing):
    """Whether thing, which may be anything, is a dict from roots to numbers from 1 on."""
    check_good(net)
    return _are_counted(net, thing)


def check_kind(net, kind):
    """BadKind unless kind is a kind of this good net."""
    if not _are_counted(net, kind):
        raise BadKind("a dict from roots to numbers from 1 on is wanted")


def kind_of_pairs(pairs):
    """The dict of pairs (root, number) with ascending keys; roots that come again are put together."""
    found = {}
    for root, many in sorted(pairs):
        found[root] = found.get(root, 0) + many
    return found


def kind_row(net, kind):
    """The sum of the roots, each as often as told."""
    check_good(net)
    check_kind(net, kind)
    return tuple([sum([root[place] * many for root, many in kind.items()]) for place in range(net.places)])


def sum_kind(net, kinds):
    """All kinds of a list put together."""
    check_good(net)
    if not is_list(kinds) or len(kinds) == 0:
        raise BadKind("a list of one or more kinds is wanted")
    for kind in kinds:
        check_kind(net, kind)
    return kind_of_pairs([(root, kind[root]) for kind in kinds for root in kind])


def _arrows_apart(net):
    """Arrows no two of which share a place."""
    found = []
    for tail, head in net.arrows:
        if not any([place in (tail, head) for arrow in found for place in arrow]):
            found.append((tail, head))
    return found


def _endings(left, apart):
    """In how many ways the roots of arrows apart can be taken from what is left of a row."""
    found = 1
    for tail, head in apart:
        found = found * (min(left[tail], left[head]) + 1)
    return found


def _check_many(many):
    if many > MOST_KINDS:
        raise TooMany(MOST_KINDS)


def _taken(left, spots):
    """What is left when a root, told by its pairs (place, number), is taken; None if it cannot be."""
    found = list(left)
    for place, number in spots:
        found[place] -= number
        if found[place] < 0:
            return None
    return found


def _begun_kinds(row, rest, apart):
    """All ways to take the roots of rest from the row: pairs of what is left and of what was taken.

    Each has as many endings as there are ways to take the roots of the arrows apart, as the roots
    of sum 1 take all that is left. So it is known that there are too many before these are made.
    """
    many = _endings(row, apart)
    _check_many(many)
    begun = [(list(row), [])]
    for root in rest:
        spots = [(place, number) for place, number in enumerate(root) if number]
        more = []
        for left, pairs in begun:
            often = 1
            after = _taken(left, spots)
            while after is not None:
                many += _endings(after, apart)
                _check_many(many)
                more.append((after, pairs + [(root, often)]))
                often += 1
                after = _taken(after, spots)
        begun = begun + more
    return begun


def _with_arrow(begun, tail, head, root):
    """All begun kinds, each with the root of this arrow taken as often as can be."""
    found = []
    for left, pairs in begun:
        found.append((left, pairs))
        for often in range(1, min(left[tail], left[head]) + 1):
            after = list(left)
            after[tail] -= often
            after[head] -= often
            found.append((after, pairs + [(root, often)]))
    return found


def kinds_of(net, row):
    """All kinds of this row, ascending as the tuples of their pairs."""
    check_good(net)
    check_row(net, row)
    if min(row) < 0:
        return []
    apart = _arrows_apart(net)
    units = [unit_row(net, place) for place in range(net.places)]
    joined = [tuple([a + b for a, b in zip(units[tail], units[head])]) for tail, head in apart]
    rest = [root for root in roots(net)[net.places:]
            if root not in joined and all([a <= b for a, b in zip(root, row)])]
    begun = _begun_kinds(row, rest, apart)
    for (tail, head), root in zip(apart, joined):
        begun = _with_arrow(begun, tail, head, root)
    found = [sorted(pairs + [(unit, many) for unit, many in zip(units, left) if many]) for left, pairs in begun]
    return [{one: many for one, many in pairs} for pairs in sorted(found)]


def _pair_sum(net, one, other, sign):
    """The sum of sign times pair_form over all pairs of roots where that is above 0."""
    found = 0
    for root, many in one.items():
        ahead = form_ahead(net, root)
        for second, often in other.items():
            found += many * often * max(0, sign * sum([a * b for a, b in zip(ahead, second)]))
    return found


def maps_of_kinds(net, one, other):
    """How many maps lead from a web of one kind to one of the other, over every prime."""
    check_good(net)
    check_kind(net, one)
    check_kind(net, other)
    return _pair_sum(net, one, other, 1)


def joinings_of_kinds(net, one, other):
    """How many joinings there are of one kind to the other."""
    check_good(net)
    check_kind(net, one)
    check_kind(net, other)
    return _pair_sum(net, one, other, -1)


def _mirrored_back(net, done, row):
    """The row mirrored at the places done, the last one first."""
    for place in reversed(done):
        row = mirrored_row(net, place, row)
    return row


def general_kind(net, row):
    """The one kind of this row without joinings with itself.

    Webs in general give as much at a sink as can be: what the room has more than all that leads in
    splits off as points, and the mirrored rest is general again. So mirrors at one sink after
    another take all away, each split point being a root that is mirrored back.
    """
    check_good(net)
    check_row(net, row)
    if min(row) < 0:
        raise BadRow("numbers from 0 on are wanted")
    order = sink_order(net)
    left = list(row)
    done = []
    pairs = []
    while any(left):
        for place in order:
            more = left[place] - around(net, place, left)
            if more > 0:
                pairs.append((_mirrored_back(net, done, unit_row(net, place)), more))
            left[place] = max(0, 0 - more)
            done.append(place)
    return kind_of_pairs(pairs)


def is_general(net, kind):
    """Whether the kind has no joinings with itself."""
    return joinings_of_kinds(net, kind, kind) == 0
