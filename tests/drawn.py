"""What several tests need: nets with names, drawn webs, all tables one by one."""

from itertools import product
from random import Random

from boughwebs.errors import WebError
from boughwebs.maps import maps
from boughwebs.mirrors import mirrored_net
from boughwebs.nets import Net, sinks
from boughwebs.roots import roots
from boughwebs.solving import is_whole
from boughwebs.tables import Table
from boughwebs.webs import Web, changed

ONE = Net(1, [])
STEP = Net(2, [(0, 1)])
STRAIGHT = Net(3, [(0, 1), (1, 2)])
CLASH = Net(3, [(0, 1), (2, 1)])
SPREAD = Net(3, [(1, 0), (1, 2)])
STAR = Net(4, [(0, 3), (1, 3), (2, 3)])
PAIR = Net(2, [(0, 1), (0, 1)])
TRIPLE = Net(2, [(0, 1), (0, 1), (0, 1)])
RING = Net(3, [(0, 1), (1, 2), (0, 2)])
SQUARE = Net(4, [(0, 1), (1, 2), (0, 3), (3, 2)])
FIVE = Net(5, [(0, 4), (1, 4), (4, 2), (4, 3)])
ARMS_SIX = Net(6, [(0, 1), (1, 2), (3, 2), (4, 3), (2, 5)])
GOOD = [ONE, STEP, STRAIGHT, CLASH, SPREAD, STAR, ARMS_SIX]
NETS = GOOD + [PAIR, TRIPLE, RING, SQUARE, FIVE]


def arms_net(lengths, turned=()):
    """A star with arms of these lengths; arrows lead to place 0, but for those with these indexes."""
    arrows, places = [], 1
    for length in lengths:
        ahead = 0
        for _ in range(length):
            arrows.append((places, ahead))
            ahead, places = places, places + 1
    return Net(places, [arrow[::-1] if at in turned else arrow for at, arrow in enumerate(arrows)])


def renamed(draw, net):
    """The net with its places named anew, its arrows in another order and direction, without a way back."""
    names = list(range(net.places))
    draw.shuffle(names)
    arrows = [(names[tail], names[head]) for tail, head in net.arrows]
    heights = list(range(net.places))
    draw.shuffle(heights)
    arrows = [(a, b) if heights[a] < heights[b] else (b, a) for a, b in arrows]
    draw.shuffle(arrows)
    return Net(net.places, arrows)


def drawn_net(draw, places, arrows):
    """A net of so many places with a tree and, beyond that, up to so many arrows."""
    ends = [(draw.randrange(place), place) for place in range(1, places)]
    while places > 1 and len(ends) < arrows:
        ends.append(tuple(draw.sample(range(places), 2)))
    plain_net = Net(places, [(min(pair), max(pair)) for pair in ends])
    return renamed(draw, plain_net)


def drawn_table(draw, prime, tall, wide, density=1):
    lines = [[draw.randrange(prime) if draw.random() < density else 0 for _ in range(wide)] for _ in range(tall)]
    return Table(prime, tall, wide, lines)


def drawn_web(draw, net, prime, sizes, density=0.7):
    tables = [drawn_table(draw, prime, sizes[head], sizes[tail], density) for tail, head in net.arrows]
    return Web(net, prime, tuple(sizes), tables)


def drawn_sizes(draw, net, most):
    return tuple(draw.randrange(most + 1) for _ in range(net.places))


def drawn_map(draw, one, other):
    """Some map from one to other: a sum of multiples of those that maps tells."""
    found = [[[0] * a for _ in range(b)] for a, b in zip(one.sizes, other.sizes)]
    for told in maps(one, other):
        many = draw.randrange(one.prime)
        for lines, table in zip(found, told):
            for k, line in enumerate(table.lines):
                lines[k] = [a + many * b for a, b in zip(lines[k], line)]
    return tuple(Table(one.prime, b, a, lines) for lines, a, b in zip(found, one.sizes, other.sizes))


def drawn_whole(draw, prime, size):
    """Some table with an inverse."""
    while True:
        table = drawn_table(draw, prime, size, size)
        if is_whole(table):
            return table


def drawn(seed):
    return Random(seed)


def all_tables(prime, tall, wide):
    """All tables of this size, one by one."""
    for numbers in product(range(prime), repeat=tall * wide):
        yield Table(prime, tall, wide, [numbers[k * wide:(k + 1) * wide] for k in range(tall)])


def plain_times(one, two, prime):
    """The product of two lists of lines, told by the plainest loop."""
    wide = len(two[0]) if two else 0
    found = [[0] * wide for _ in one]
    for i, line in enumerate(one):
        for j in range(wide):
            for k, number in enumerate(line):
                found[i][j] = (found[i][j] + number * two[k][j]) % prime
    return found


def leads_plainly(one, other, tables):
    """Whether tables of these sizes are a map, judged number by number."""
    for at, (tail, head) in enumerate(one.net.arrows):
        for i in range(other.sizes[head]):
            for j in range(one.sizes[tail]):
                there = sum(tables[head].lines[i][k] * one.tables[at].lines[k][j] for k in range(one.sizes[head]))
                back = sum(other.tables[at].lines[i][k] * tables[tail].lines[k][j] for k in range(other.sizes[tail]))
                if (there - back) % one.prime:
                    return False
    return True


def all_maps(one, other):
    """All maps from one to other, found by trying all tables."""
    rooms = [list(all_tables(one.prime, b, a)) for a, b in zip(one.sizes, other.sizes)]
    return [tables for tables in product(*rooms) if leads_plainly(one, other, tables)]


def good_nets(seed, most=8):
    """Lines, forks and arms of each number of places up to most, in some naming and direction."""
    draw = drawn(seed)
    found = [ONE] + [arms_net((length,)) for length in range(1, most)]
    found += [arms_net((1, 1, length)) for length in range(1, most - 2)]
    found += [arms_net((1, 2, length)) for length in range(2, most - 3)]
    return [renamed(draw, net) for net in found]


def drawn_kind(draw, net, most=2, many=4):
    """A kind with up to so many roots, each up to so often."""
    found = roots(net)
    some = draw.sample(found, draw.randrange(min(many, len(found)) + 1))
    return {root: draw.randrange(1, most + 1) for root in some}


def turned_about(draw, web):
    """The web in drawn coordinates."""
    return changed(web, [drawn_whole(draw, web.prime, size) for size in web.sizes])


def drawn_word(draw, net, length):
    """A word of this length, each sink drawn."""
    word = []
    for _ in range(length):
        word.append(draw.choice(sinks(net)))
        net = mirrored_net(net, word[-1])
    return word


def error_of(work, *arguments, **named):
    """The name of the error that this raises, with its attribute if it has one; None if it raises none."""
    try:
        work(*arguments, **named)
    except WebError as error:
        told = [getattr(error, key) for key in ("part", "at", "most") if hasattr(error, key)]
        return (type(error).__name__, *told)
    return None


def check_order(case, work, good, steps):
    """The errors come in this order: steps are triples of a parameter, a wrong value, and the error that is due.

    Each is raised when it is wrong alone, and when all that come behind it are wrong, too.
    """
    case.assertIsNone(error_of(work, **good))
    for at, (key, wrong, told) in enumerate(steps):
        case.assertEqual(error_of(work, **{**good, key: wrong}), told, (work, key, wrong))
        all_wrong = dict(good)
        for other, value, _ in reversed(steps[at:]):
            all_wrong[other] = value
        case.assertEqual(error_of(work, **all_wrong), told, (work, key, wrong, "and more"))


def with_number(table, at=0):
    """The Table with one more at one of its numbers."""
    numbers = [number for line in table.lines for number in line]
    numbers[at] += 1
    wide = table.wide
    return Table(table.prime, table.tall, wide, [numbers[k * wide:(k + 1) * wide] for k in range(table.tall)])


def with_one_otherwise(mapping):
    """The tuple of Tables with one number otherwise, each number in its turn."""
    for k, table in enumerate(mapping):
        for at in range(table.tall * table.wide):
            yield mapping[:k] + (with_number(table, at),) + mapping[k + 1:]


def of_other_kinds(value, allowed=()):
    """Values that are not this one, as something in it is of another kind, or lacks, or is too many.

    Lists in place of tuples are not among them at depths that are allowed.
    """
    for other in _of_other_kinds(value, 0, allowed):
        yield other


def _of_other_kinds(value, depth, allowed):
    for other in (None, 0.5, "other", object()):
        yield other
    if isinstance(value, int):
        yield float(value)
        yield str(value)
        if value in (0, 1):
            yield bool(value)
    if isinstance(value, str):
        yield value + "s"
    if isinstance(value, Table):
        yield value.lines
        yield Table(7 if value.prime != 7 else 5, value.tall, value.wide, [[0] * value.wide] * value.tall)
    if isinstance(value, (list, tuple)):
        if depth not in allowed:
            yield list(value) if isinstance(value, tuple) else tuple(value)
        yield value + type(value)([None])
        for at, item in enumerate(value):
            for other in _of_other_kinds(item, depth + 1, allowed):
                yield value[:at] + type(value)([other]) + value[at + 1:]


def drawn_joining(draw, one, other):
    return tuple(drawn_table(draw, one.prime, other.sizes[head], one.sizes[tail]) for tail, head in one.net.arrows)


def drawn_slack(draw, one, other):
    return tuple(drawn_table(draw, one.prime, b, a) for a, b in zip(one.sizes, other.sizes))


def small_rows(net, most):
    """All rows of numbers from 0 to most."""
    return list(product(range(most + 1), repeat=net.places))
