"""The least pairs in a pair of tables, with the columns that show them, as plain lists.

A *plain* pair is a triple: the sizes of both rooms, and the columns of both tables. It is led on
to the pair of all (x, y) with second x equal to first y, whose tables lead to x and to y: this takes
out ("up", 0), leads up k + 1 to up k, and leaves all else to be led back.

A *piece* is a triple: a name, and the columns of the least pair in both rooms.
"""

from boughwebs.cyclings import cyclic_parts
from boughwebs.vectors import combined, exchanged, inverse_columns, kernel_of_columns, lessened, reduced_vectors
from boughwebs.vectors import span_of_vectors, units

# How many mixtures are tried before the pair is led on.
MOST_TRIED = 4


def _negated(prime, columns):
    return [[(0 - number) % prime for number in column] for column in columns]


def _led_on(prime, pair):
    """The plain pair led on."""
    (wide, _), first, second = pair
    kernel, _ = kernel_of_columns(prime, second + _negated(prime, first))
    return ((len(kernel), wide), [some[:wide] for some in kernel], [some[wide:] for some in kernel])


def _led_back(prime, pair):
    """The plain pair led back, and, for each place of its second room, the table and the column that show it there."""
    (wide, tall), first, second = pair
    lines = exchanged(second, tall) + exchanged(_negated(prime, first), tall)
    left, free = kernel_of_columns(prime, lines)
    tables = [exchanged([line[:tall] for line in left], tall), exchanged([line[tall:] for line in left], tall)]
    return (((tall, len(left)), tables[0], tables[1]), [(k // tall, k % tall) for k in free])


def _mixed(prime, pair, many):
    """The columns of the first table and so many times the second one."""
    return [[(a + many * b) % prime for a, b in zip(one, other)] for one, other in zip(pair[1], pair[2])]


def _has_rank(prime, pair, size):
    """Whether some simple mixture of both tables surely has this rank."""
    if len(reduced_vectors(prime, pair[2])) == size:
        return True
    for many in range(min(prime, MOST_TRIED)):
        if len(reduced_vectors(prime, _mixed(prime, pair, many))) == size:
            return True
    return False


def _may_have_ups(prime, pair, left, many):
    """Whether the pair, led on so many times, may have ups, if these sizes are left in the pair from which it came.

    Ups surely are there if the second room is greater, and none are if the tables can be mixed to lead onto it.
    """
    wide, tall = pair[0]
    if left[0] < many or left[1] <= many:
        return False
    return tall > wide or not _has_rank(prime, pair, tall)


def _levels(prime, pair):
    """The pairs led on, each with the columns of its second room that neither table gives, until there are no ups."""
    left = list(pair[0])
    found = []
    while _may_have_ups(prime, pair, left, len(found)):
        leading = reduced_vectors(prime, pair[1] + pair[2])
        lone = [unit for k, unit in enumerate(units(pair[0][1])) if k not in leading]
        left = [left[0] - len(lone) * len(found), left[1] - len(lone) * (len(found) + 1)]
        found.append((pair, lone))
        pair = _led_on(prime, pair)
    return (found, pair)


def _led_by(prime, pair, table, column):
    """What one of the tables, told by 0 or 1, makes of a column."""
    return combined(prime, pair[1 + table], column, pair[0][1])


def _raised_up(prime, pair, columns):
    """The columns of an up in both rooms, by those of the up led on in its second room."""
    if not columns:
        return ([], [])
    return (columns, [_led_by(prime, pair, 0, columns[0])] + [_led_by(prime, pair, 1, column) for column in columns])


def split_ups(prime, pair):
    """The ups, told by their columns in both rooms, and what is left: a plain pair and its columns in both rooms.

    These columns are None if there are no ups.
    """
    levels, last = _levels(prime, pair)
    ups = []
    inner = outer = None
    rest = last
    for level, lone in reversed(levels):
        if not lone and not ups:
            rest = level
            continue
        ups = [([], [unit]) for unit in lone] + [_raised_up(prime, level, columns) for _, columns in ups]
        # All that was led on, if there were no ups in it, is what is led back.
        inner = units(level[0][0]) if outer is None else outer
        rest, picks = _led_back(prime, rest)
        outer = [_led_by(prime, level, table, inner[k]) for table, k in picks]
    return (ups, rest, (inner, outer))


def _across(pair):
    """The plain pair with both tables across."""
    (wide, tall), first, second = pair
    return ((tall, wide), exchanged(first, tall), exchanged(second, tall))


def _residues(prime, span, columns):
    leading = reduced_vectors(prime, span)
    return [lessened(prime, leading, column) for column in columns]


def _sums(prime, columns, many, wide):
    """The sums of the columns, so long, each list of many telling how often."""
    return [combined(prime, columns, some, wide) for some in many]


def _firm_and_fading(prime, pair):
    """Independent columns of all turns, and of all fars, by a mixture of the tables that has an inverse; None without.

    First, done and undone by this again and again, leads just the fars to 0.
    """
    size = pair[0][0]
    for many in range(1, prime):
        mixed = _mixed(prime, pair, many)
        if len(reduced_vectors(prime, mixed)) == size:
            power = _sums(prime, inverse_columns(prime, mixed), pair[1], size)
            often = 1
            while often < size:
                power = _sums(prime, power, power, size)
                often = 2 * often
            return (span_of_vectors(prime, power), kernel_of_columns(prime, power)[0])
    return None


def _turning(prime, pair):
    """The columns of all turns: again and again those that second leads into what first makes of all left."""
    (size, tall), first, second = pair
    found = units(size)
    one, other = first, second
    while True:
        rest = _residues(prime, one, other)
        if not any([any(column) for column in rest]):
            return found
        many, _ = kernel_of_columns(prime, rest)
        found = _sums(prime, found, many, size)
        one, other = _sums(prime, first, found, tall), _sums(prime, second, found, tall)


def _fading(prime, pair):
    """The columns of all fars: again and again those that first leads into what second makes of them."""
    _, first, second = pair
    found, _ = kernel_of_columns(prime, first)
    many = -1
    while len(found) > many:
        many = len(found)
        found, _ = kernel_of_columns(prime, _residues(prime, _sums(prime, second, found, pair[0][1]), first))
    return found


def _cyclic_pieces(prime, tall, inner, one, other):
    """The pieces of these columns, which the table one leads on without loss, and other into what one makes of them.

    The name of a piece is a pair yet.
    """
    led = _sums(prime, one, inner, tall)
    many, _ = kernel_of_columns(prime, led + _sums(prime, other, inner, tall))
    table = [[(0 - number) % prime for number in some[:len(inner)]] for some in many]
    wide = len(one)
    return [((poly, e), _sums(prime, inner, chain, wide), _sums(prime, led, chain, tall))
            for poly, e, chain in cyclic_parts(prime, table)]


def _regular_pieces(prime, pair):
    """The pieces of turns and fars of a plain pair that is made of these alone."""
    (size, tall), first, second = pair
    if len(reduced_vectors(prime, first)) == size:
        turning, fading = units(size), []
    else:
        told = _firm_and_fading(prime, pair)
        turning, fading = told if told is not None else (_turning(prime, pair), _fading(prime, pair))
    found = [(("turn", poly, e), inner, outer)
             for (poly, e), inner, outer in _cyclic_pieces(prime, tall, turning, first, second)]
    return found + [(("far", e), inner, outer)
                    for (_, e), inner, outer in _cyclic_pieces(prime, tall, fading, second, first)]


def _led_pieces(prime, charts, pieces):
    """The pieces of what is left, told in all: the charts are the columns of what is left in both rooms."""
    wides = [len(chart[0]) if chart else 0 for chart in charts]
    return [(name, _sums(prime, charts[0], inner, wides[0]), _sums(prime, charts[1], outer, wides[1]))
            for name, inner, outer in pieces]


def _pieces_without_ups(prime, pair):
    """The pieces of a plain pair without ups.

    The columns of ups of the pair with both tables across are lines of downs: together with those of
    what is left they have inverses, whose columns are those of the pieces.
    """
    ups, rest, (outer, inner) = split_ups(prime, _across(pair))
    if not ups:
        return _regular_pieces(prime, pair)
    backs = []
    for lines in (inner + [line for _, some in ups for line in some],
                  outer + [line for some, _ in ups for line in some]):
        backs.append(inverse_columns(prime, exchanged(lines, len(lines))))
    ahead = [len(inner), len(outer)]
    charts = [columns[:many] for columns, many in zip(backs, ahead)]
    found = _led_pieces(prime, charts, _regular_pieces(prime, _across(rest)))
    for some, _ in ups:
        k = len(some)
        found.append((("down", k), backs[0][ahead[0]:ahead[0] + k + 1], backs[1][ahead[1]:ahead[1] + k]))
        ahead = [ahead[0] + k + 1, ahead[1] + k]
    return found


def pieces_of_pair(prime, pair):
    """All pieces of a plain pair, their names ascending."""
    ups, rest, charts = split_ups(prime, pair)
    found = _pieces_without_ups(prime, rest)
    if ups:
        found = _led_pieces(prime, charts, found)
    return sorted(found + [(("up", len(inner)), inner, outer) for inner, outer in ups])
