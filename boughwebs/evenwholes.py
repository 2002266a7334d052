"""Wholes that are of one kind over every prime: the least whole of each root, and sums of these.

A least whole is mirrored back from a point as the least web is. What the whole tables that lead away
from a source leave is told by lines that, over every prime, lead nothing more to 0.
"""

from boughwebs.errors import BadWhole
from boughwebs.kinds import check_kind, kind_row
from boughwebs.leasts import root_word
from boughwebs.loom import turn_counts
from boughwebs.nets import sink_order
from boughwebs.roots import check_good
from boughwebs.wholes import Whole, are_whole_sizes, sum_of_wholes
from boughwebs.words import flipped


def _cleared(lines, at):
    """The lines with 0 in the column below this line, by whole steps of lines taken from one another."""
    left = [list(line) for line in lines]
    below = [k for k in range(at, len(left)) if left[k][at]]
    while len(below) > 1 or below[0] != at:
        _, least = min([(abs(left[k][at]), k) for k in below])
        left[at], left[least] = left[least], left[at]
        for k in range(at + 1, len(left)):
            many = left[k][at] // left[at][at]
            if many:
                left[k] = [a - many * b for a, b in zip(left[k], left[at])]
        below = [k for k in range(at, len(left)) if left[k][at]]
    return left


def _left_lines(columns, tall):
    """Lines of whole numbers that lead columns, so tall, to 0, and that with others make a table with an inverse."""
    wide = len(columns)
    lines = [[column[k] for column in columns] + [1 if k == own else 0 for own in range(tall)] for k in range(tall)]
    for at in range(wide):
        lines = _cleared(lines, at)
    return [line[wide:] for line in lines[wide:]]


def mirrored_back(arrows, sizes, tables, place):
    """The whole, told by lists, mirrored at this source: pairs for the arrows, sizes, lines of each table."""
    known = [(at, head) for at, (tail, head) in enumerate(arrows) if tail == place]
    rows = [line for at, _ in known for line in tables[at]]
    columns = [[line[k] for line in rows] for k in range(sizes[place])]
    lines = _left_lines(columns, len(rows))
    found = list(tables)
    ahead = 0
    for at, head in known:
        found[at] = [line[ahead:ahead + sizes[head]] for line in lines]
        ahead += sizes[head]
    return (flipped(arrows, place), [len(lines) if k == place else size for k, size in enumerate(sizes)], found)


def _least_by(net, word, place):
    """The least whole, told by lists, of the root whose word and place these are."""
    arrows = list(net.arrows)
    for letter in word:
        arrows = flipped(arrows, letter)
    sizes = [1 if k == place else 0 for k in range(net.places)]
    told = (arrows, sizes, [[[]] if head == place else [] for tail, head in arrows])
    for letter in reversed(word):
        arrows, sizes, tables = told
        told = mirrored_back(arrows, sizes, tables, letter)
    return told


def least_whole(net, root):
    """The Whole of sizes root that is alike to the least web over every prime."""
    check_good(net)
    word, place = root_word(net, root)
    _, sizes, tables = _least_by(net, word, place)
    return Whole(net, tuple(sizes), tables)


def all_leasts(net):
    """The least wholes of all roots: each is mirrored back, at all places, from that of the last root of its place."""
    order = sink_order(net)
    counts = turn_counts(net)
    found = {}
    for at, place in enumerate(order):
        told = _least_by(net, order[:at], place)
        for turn in range(counts[place]):
            if turn:
                for letter in reversed(order):
                    told = mirrored_back(told[0], told[1], told[2], letter)
            found[tuple(told[1])] = Whole(net, tuple(told[1]), told[2])
    return found


def even_whole(net, kind):
    """The sum of the least wholes of the kind's roots, ascending, each as often as told."""
    check_good(net)
    check_kind(net, kind)
    row = kind_row(net, kind)
    if not are_whole_sizes(net, row):
        raise BadWhole("sizes")
    wholes = []
    for root in sorted(kind):
        wholes = wholes + [least_whole(net, root)] * kind[root]
    if not wholes:
        return Whole(net, row, [[] for _ in net.arrows])
    return sum_of_wholes(wholes)
