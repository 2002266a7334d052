"""What is left of a four without early and late parts: knots and turns.

In the middle of all knots of one i line i meets line 3, the other two, o and w, meet one another, and
what i and o span is all. There lines 3 and w are told by two tables: line 3 has each column of i
together with what the one makes of it in o, line w each of o together with what the other makes of
it in i. Done in turns both lead all to 0, so that there are chains of columns, each led to the one
ahead of it: a knot each. In the middle of all turns lines 0 and 1 span all, and 2 and 3 are told so.

A *piece* is a pair: a name, and for each of the five rooms the columns of the least four.
"""

from boughwebs.cyclings import cyclic_parts
from boughwebs.foursteps import LINES
from boughwebs.vectors import combined, common_of_spaces, independent_of, inverse_columns
from boughwebs.vectors import kernel_of_columns, span_of_vectors, units

TUBES = ((0, 1, 2), (1, 0, 2), (2, 0, 1))


def _met(prime, four, pairs, space, both):
    """What comes of a space by doing so with one pair of lines and the other in turns, until nothing changes."""
    middle, tables = four
    idle = 0
    while idle < 2:
        one, other = tables[pairs[0][0]], tables[pairs[0][1]]
        after = both(prime, one, other, space, middle)
        idle = idle + 1 if len(after) == len(space) else 0
        space = after
        pairs = (pairs[1], pairs[0])
    return space


def _raised_space(prime, one, other, space, middle):
    """What the space and one, and the space and other, have in common."""
    return common_of_spaces(prime, span_of_vectors(prime, space + one), span_of_vectors(prime, space + other), middle)


def _lowered_space(prime, one, other, space, middle):
    """What the space has in common with one, and with other, together."""
    return span_of_vectors(prime, common_of_spaces(prime, space, one, middle)
                           + common_of_spaces(prime, space, other, middle))


def _columns_in(prime, columns, space):
    """The pairs (column of the line's room, what it is led to) that span what of a line lies in the space."""
    found, _ = kernel_of_columns(prime, columns + space)
    rooms = [many[:len(columns)] for many in found]
    middle = len(columns[0]) if columns else 0
    return [(room, combined(prime, columns, room, middle)) for room in rooms]


def _told_by(prime, first, second, columns):
    """For each of the first columns the many of the second that, with it, lie in the line, and its room's column."""
    ahead = [vector for _, vector in second] + columns
    found, _ = kernel_of_columns(prime, ahead + [vector for _, vector in first])
    told = []
    for many in found:
        room = [(0 - number) % prime for number in many[len(second):len(ahead)]]
        told.append((many[:len(second)], room))
    return told


def _led_often(prime, steps, sizes):
    """For each k, up to where all is led to 0, the kernels in both rooms of steps led in turns k times."""
    powers = [units(size) for size in sizes]
    found = [[[], []]]
    while any([len(kernel) < size for kernel, size in zip(found[-1], sizes)]):
        many = len(found)
        powers = [[combined(prime, steps[(room + many - 1) % 2], column, sizes[(room + many) % 2])
                   for column in columns] for room, columns in enumerate(powers)]
        kernels = []
        for room, columns in enumerate(powers):
            kernels.append(kernel_of_columns(prime, columns)[0] if any(columns) else units(sizes[room]))
        found.append(kernels)
    return found


def graded_chains(prime, steps, sizes):
    """Chains of pairs (room, column) that together are all columns of two rooms, each led to the one ahead of it.

    The first of a chain is led to 0. Steps are the columns of two tables, from each room to the other.
    """
    kernels = _led_often(prime, steps, sizes)
    found = []
    for many in range(len(kernels) - 1, 0, -1):
        longer = list(found)
        for room in (0, 1):
            base = kernels[many - 1][room]
            base = base + [chain[many - 1][1] for chain in longer if chain[many - 1][0] == room]
            some = kernels[many][room]
            for at in independent_of(prime, base, some):
                chain = [(room, some[at])]
                while len(chain) < many:
                    here, column = chain[0]
                    chain = [(1 - here, combined(prime, steps[here], column, sizes[1 - here]))] + chain
                found.append(chain)
    return found


def _sums(prime, columns, many):
    """The sums of the columns, each list of many telling how often."""
    wide = len(columns[0]) if columns else 0
    return [combined(prime, columns, some, wide) for some in many]


def _knot_piece(prime, tube, both, told, chain):
    """The piece of the knot that a chain makes."""
    first = [column for room, column in chain if room == 0]
    second = [column for room, column in chain if room == 1]
    i, o, w = tube
    rooms = [[] for _ in range(LINES)]
    rooms[i] = _sums(prime, [room for room, _ in both[0]], first)
    rooms[o] = _sums(prime, [room for room, _ in both[1]], second)
    rooms[3] = _sums(prime, [room for _, room in told[0]], first)
    rooms[w] = _sums(prime, [room for _, room in told[1]], second)
    last = [_sums(prime, [vector for _, vector in both[0]], first),
            _sums(prime, [vector for _, vector in both[1]], second)]
    j = chain[0][0]
    return (("knot", i, j, len(chain)), rooms + [last[j] + last[1 - j]])


def _knots(prime, four, tube, space):
    """The pieces of all knots of one i, with what they span in the middle."""
    tables = four[1]
    i, o, w = tube
    both = [_columns_in(prime, tables[i], space), _columns_in(prime, tables[o], space)]
    told = [_told_by(prime, both[0], both[1], tables[3]), _told_by(prime, both[1], both[0], tables[w])]
    steps = [[many for many, _ in some] for some in told]
    chains = graded_chains(prime, steps, [len(some) for some in both])
    return [_knot_piece(prime, tube, both, told, chain) for chain in chains]


def _turns(prime, four, space):
    """The pieces of all turns, with what they span in the middle."""
    tables = four[1]
    first, second = _columns_in(prime, tables[0], space), _columns_in(prime, tables[1], space)
    told = [_told_by(prime, first, second, tables[line]) for line in (2, 3)]
    back = inverse_columns(prime, [many for many, _ in told[0]])
    led = _sums(prime, back, [many for many, _ in told[1]])
    found = []
    for poly, e, chain in cyclic_parts(prime, led):
        others = _sums(prime, [many for many, _ in told[0]], chain)
        rooms = [_sums(prime, [room for room, _ in first], chain),
                 _sums(prime, [room for room, _ in second], others),
                 _sums(prime, [room for _, room in told[0]], chain),
                 _sums(prime, [room for _, room in told[1]], chain)]
        last = _sums(prime, [vector for _, vector in first], chain)
        last = last + _sums(prime, [vector for _, vector in second], others)
        found.append((("turn", poly, e), rooms + [last]))
    return found


def regular_pieces(prime, four):
    """The pieces of a plain four that is made of knots and turns alone."""
    middle = four[0]
    left = middle
    space = units(middle)
    found = []
    for tube in TUBES:
        i, o, w = tube
        pairs = ((i, 3), (o, w))
        knots = _met(prime, four, pairs, [], _raised_space)
        left -= len(knots)
        if knots:
            found = found + _knots(prime, four, tube, knots)
            space = _met(prime, four, pairs, space, _lowered_space)
    return found + _turns(prime, four, space) if left else found
