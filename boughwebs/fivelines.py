"""Five lines in a room: doubles of tables, and webs of every net, hidden in them."""

from boughwebs.errors import BadDouble, BadMaps, BadWeb, NotSo
from boughwebs.maps import leads
from boughwebs.nets import Net
from boughwebs.solving import inverse, is_whole
from boughwebs.tables import Table, beside, corner, empty, is_sized, over, plain, times
from boughwebs.webs import Web, check_together, check_web

GREATEST_SIZE = 30
LINES = 5


def _is_double(thing):
    """Whether thing, which may be anything, is a tuple of two square Tables of one prime and size, at most 30."""
    if not isinstance(thing, tuple) or len(thing) != 2 or not isinstance(thing[0], Table):
        return False
    size = thing[0].tall
    return size <= GREATEST_SIZE and all([is_sized(table, thing[0].prime, size, size) for table in thing])


def _check_double(thing):
    if not _is_double(thing):
        raise BadDouble("two square Tables of one prime and size are wanted, of size 30 at most")


def is_double_map(one, other, thing):
    """Whether thing, which may be anything, is a Table that leads both tables of one to those of other."""
    _check_double(one)
    _check_double(other)
    if one[0].prime != other[0].prime:
        raise BadDouble("two doubles of one prime are wanted")
    if not is_sized(thing, one[0].prime, other[0].tall, one[0].tall):
        return False
    return all([times(thing, first) == times(second, thing) for first, second in zip(one, other)])


def five_net():
    """The net of five places with an arrow each to the sixth."""
    return Net(LINES + 1, ((0, 5), (1, 5), (2, 5), (3, 5), (4, 5)))


def five_of(double):
    """The web of five lines that tells the double."""
    _check_double(double)
    one, other = double
    size = one.tall
    unit, none = plain(one.prime, size), empty(one.prime, size, size)
    tables = [over([unit, none]), over([none, unit]), over([unit, unit]), over([unit, one]), over([unit, other])]
    return Web(five_net(), one.prime, (size,) * LINES + (2 * size,), tables)


def _halves(table):
    """The upper and the lower half of a Table's lines."""
    size = table.tall // 2
    return [Table(table.prime, size, table.wide, list(some)) for some in (table.lines[:size], table.lines[size:])]


def _check_five(holds):
    if not holds:
        raise NotSo("a web that is alike to the five lines of a double is wanted")


def double_of(web):
    """A double whose five_of is alike to the web, and the coordinates that show it."""
    check_web(web)
    _check_five(web.net == five_net())
    size = web.sizes[0]
    _check_five(web.sizes == (size,) * LINES + (2 * size,))
    back = inverse(beside([web.tables[0], web.tables[1]]))
    _check_five(back is not None)
    third = _halves(times(back, web.tables[2]))
    _check_five(all([is_whole(table) for table in third]))
    # In these coordinates of the middle the first three lines are as told.
    slant = times(third[0], inverse(third[1]))
    middle = times(corner([plain(web.prime, size), slant]), back)
    ways = [plain(web.prime, size), slant, third[0]]
    double = []
    for table in web.tables[3:]:
        upper, lower = _halves(times(middle, table))
        _check_five(is_whole(upper))
        ways.append(upper)
        double.append(times(lower, inverse(upper)))
    return (tuple(double), ways + [middle])


def _length(web):
    """How many lines a square table has that has all rooms one behind another."""
    return sum(web.sizes)


def _count_blocks(net):
    """How many blocks the tables of a hidden web have in each line."""
    return net.places - 1 + len(net.arrows) + 2


def _check_hidden(web):
    if _count_blocks(web.net) * _length(web) > GREATEST_SIZE:
        raise BadWeb("sizes")


def _spread_table(web, table, down, right):
    """The lines of a square table of all rooms that has the table at these places, and 0 elsewhere."""
    size = _length(web)
    lines = [[0] * size for _ in range(size)]
    for k, line in enumerate(table.lines):
        lines[down + k][right:right + table.wide] = list(line)
    return lines


def _listed(web):
    """The list z of a web's hidden tables: plain at each room but the last, then the table along each arrow."""
    ahead = [sum(web.sizes[:place]) for place in range(web.net.places)]
    found = [_spread_table(web, plain(web.prime, web.sizes[place]), ahead[place], ahead[place])
             for place in range(web.net.places - 1)]
    return found + [_spread_table(web, table, ahead[head], ahead[tail])
                    for table, (tail, head) in zip(web.tables, web.net.arrows)]


def _of_blocks(prime, many, size, blocks):
    """The Table of so many blocks of lines, of this size, that has these lines in its blocks, and 0 elsewhere."""
    lines = [[0] * (many * size) for _ in range(many * size)]
    for down, right, block in blocks:
        for k, line in enumerate(block):
            lines[down * size + k][right * size:(right + 1) * size] = list(line)
    return Table(prime, many * size, many * size, lines)


def _hidden(web):
    many, size = _count_blocks(web.net), _length(web)
    unit = plain(web.prime, size).lines
    first = [(k, k + 1, unit) for k in range(many - 1)]
    second = [(k + 1, k, unit) for k in range(many - 1)]
    second = second + [(k + 2, k, block) for k, block in enumerate(_listed(web))]
    return (_of_blocks(web.prime, many, size, first), _of_blocks(web.prime, many, size, second))


def hidden(web):
    """The double in which the web is hidden."""
    check_web(web)
    _check_hidden(web)
    return _hidden(web)


def _check_both(one, other):
    check_together(one, other)
    _check_hidden(one)
    _check_hidden(other)


def hidden_map(one, other, mapping):
    """The map between the five lines of both hidden webs that the map makes."""
    _check_both(one, other)
    if not leads(one, other, mapping):
        raise BadMaps("a map between these webs is wanted")
    table = corner([corner(mapping)] * _count_blocks(one.net))
    return (table,) * LINES + (corner([table, table]),)


def shown_map(one, other, thing):
    """The map whose hidden_map it is."""
    _check_both(one, other)
    if not leads(five_of(_hidden(one)), five_of(_hidden(other)), thing):
        raise BadMaps("a map between the five lines of both hidden webs is wanted")
    found = []
    down = right = 0
    for tall, wide in zip(other.sizes, one.sizes):
        lines = [line[right:right + wide] for line in thing[0].lines[down:down + tall]]
        found.append(Table(one.prime, tall, wide, lines))
        down += tall
        right += wide
    return tuple(found)
