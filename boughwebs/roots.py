"""The form of a net: what it tells of the net's shape, and the roots of good nets."""

from boughwebs.checks import is_same
from boughwebs.errors import BadRow, NotGood
from boughwebs.nets import check_net, check_place, check_row, is_row, unit_row

# No number of the rows that settled_row tells is greater; where one would be, none is ever the last.
GREATEST_SETTLED = 6
GOOD_SHAPES = ("line", "fork", "arms")


def pair_value(net, one, other):
    """What pair_form tells, of what surely are rows of the net."""
    places = sum([a * b for a, b in zip(one, other)])
    return places - sum([one[tail] * other[head] for tail, head in net.arrows])


def form_ahead(net, one):
    """The numbers whose products with those of another row sum up to pair_form of one and it."""
    found = list(one)
    for tail, head in net.arrows:
        found[head] -= one[tail]
    return found


def pair_form(net, one, other):
    """The products place by place, less the products along the arrows, one at the tails."""
    check_net(net)
    check_row(net, one)
    check_row(net, other)
    return pair_value(net, one, other)


def form(net, row):
    """The squares, less the products of both ends of the arrows."""
    check_net(net)
    check_row(net, row)
    return pair_value(net, row, row)


def around(net, place, row):
    """The sum of the numbers at the other ends of the place's arrows."""
    ahead = sum([row[tail] for tail, head in net.arrows if head == place])
    return ahead + sum([row[head] for tail, head in net.arrows if tail == place])


def other_ends(net):
    """For each place the other ends of its arrows."""
    found = [[] for _ in range(net.places)]
    for tail, head in net.arrows:
        found[tail].append(head)
        found[head].append(tail)
    return found


def settled_row(net):
    """The least row of numbers above 0 that has nowhere less than half of what stands around.

    None if there is none. Each number below that half has to be raised, so raising one after
    another by 1 passes no such row.
    """
    ends = other_ends(net)
    row = [1] * net.places
    raised = True
    while raised:
        raised = False
        for place, near in enumerate(ends):
            if 2 * row[place] < sum([row[k] for k in near]):
                row[place] += 1
                raised = True
        if max(row) > GREATEST_SETTLED:
            return None
    return tuple(row)


def _wild_row(net):
    row = tuple([1] * net.places)
    while pair_value(net, row, row) >= 0:
        row = tuple([row[place] + around(net, place, row) for place in range(net.places)])
    return row


def shape(net):
    """("line", n), ("fork", n), ("arms", n), ("round", row) or ("wild", row)."""
    check_net(net)
    row = settled_row(net)
    if row is None:
        return ("wild", _wild_row(net))
    if pair_value(net, row, row) == 0:
        return ("round", row)
    # On a good net this row is the highest root: 1 all over on lines, up to 2 on forks.
    return (GOOD_SHAPES[min(max(row), 3) - 1], net.places)


def is_shape(net, thing):
    """Whether thing, which may be anything, is the net's shape."""
    return is_same(shape(net), thing)


def is_good(net):
    """Whether the form is above 0 for every row but that of noughts."""
    return shape(net)[0] in GOOD_SHAPES


def check_good(net):
    """BadNet(None) for no Net, NotGood for a net that is not good."""
    if not is_good(net):
        raise NotGood("the net is neither a line nor a fork with short arms")


def is_root(net, thing):
    """Whether thing, which may be anything, is a root of this good net."""
    return is_row(net, thing) and min(thing) >= 0 and pair_value(net, thing, thing) == 1


def check_root(net, root):
    """BadRow unless root is a root of this good net."""
    if not is_root(net, root):
        raise BadRow("a root of the net is wanted")


def roots(net):
    """All roots, ascending by sum and then as tuples."""
    check_good(net)
    ends = other_ends(net)
    level = [unit_row(net, place) for place in range(net.places)]
    found = []
    while level:
        found = found + sorted(level)
        higher = {}
        for row in level:
            for place, near in enumerate(ends):
                # Raised where the mirrored row has 1 more: each root but those of sum 1 comes so.
                if sum([row[k] for k in near]) == 2 * row[place] + 1:
                    higher[row[:place] + (row[place] + 1,) + row[place + 1:]] = True
        level = list(higher)
    return found


def mirrored_row(net, place, row):
    """The row with, at the place, the numbers around it less what was there."""
    check_net(net)
    check_place(net, place)
    check_row(net, row)
    number = around(net, place, row) - row[place]
    return tuple([number if k == place else row[k] for k in range(net.places)])


def highest(net):
    """The root that is at least each other one at all places."""
    check_good(net)
    return settled_row(net)
