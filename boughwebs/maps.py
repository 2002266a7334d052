"""Maps between webs, and the webs of what they lead to 0, of what they give, of what they leave."""

from boughwebs.errors import BadMaps, TooMany
from boughwebs.solving import inverse, is_whole, kernel, kernel_columns, leading_columns, left_over, reduced
from boughwebs.solving import solved, solved_across
from boughwebs.tables import Table, is_sized, plain, times
from boughwebs.webs import Web, check_together

MOST_NUMBERS = 300
MOST_PLACES = 8


def are_between(one, other, thing):
    """Whether thing, which may be anything, is a tuple of Tables from the rooms of one to those of other."""
    if not isinstance(thing, tuple) or len(thing) != one.net.places:
        return False
    return all([is_sized(table, one.prime, tall, wide)
                for table, tall, wide in zip(thing, other.sizes, one.sizes)])


def leads(one, other, thing):
    """Whether thing, which may be anything, is a map between these webs of one net and prime."""
    if not are_between(one, other, thing):
        return False
    return all([times(thing[head], one.tables[at]) == times(other.tables[at], thing[tail])
                for at, (tail, head) in enumerate(one.net.arrows)])


def is_map(one, other, thing):
    """Whether thing, which may be anything, is a map from one to other."""
    check_together(one, other)
    return leads(one, other, thing)


def check_map(one, other, mapping):
    """BadMaps unless mapping is a map from one to other, after what check_together raises."""
    check_together(one, other)
    if not leads(one, other, mapping):
        raise BadMaps("a map between these webs is wanted")


def offsets(one, other):
    """How many numbers of a map stand ahead of each place, and, as the last one, how many in all."""
    found = [0]
    for a, b in zip(one.sizes, other.sizes):
        found.append(found[-1] + a * b)
    return found


def _arrow_equations(one, other, at, starts):
    """The equations along arrow `at`, line by line, as dicts without noughts from the numbers of a map."""
    tail, head = one.net.arrows[at]
    rows = []
    for line in range(other.sizes[head]):
        ahead = starts[head] + line * one.sizes[head]
        for column in range(one.sizes[tail]):
            row = {ahead + k: one.tables[at].lines[k][column] for k in range(one.sizes[head])}
            for k in range(other.sizes[tail]):
                row[starts[tail] + k * one.sizes[tail] + column] = one.prime - other.tables[at].lines[line][k]
            rows.append({k: row[k] % one.prime for k in row if row[k] % one.prime})
    return rows


def equations(one, other):
    """All equations for the numbers of a map, arrow by arrow, line by line."""
    starts = offsets(one, other)
    return [row for at in range(len(one.net.arrows)) for row in _arrow_equations(one, other, at, starts)]


def tables_of_numbers(prime, talls, wides, numbers):
    """The tuple of Tables of these sizes with these numbers, told Table by Table, line by line."""
    tables = []
    ahead = 0
    for tall, wide in zip(talls, wides):
        lines = [numbers[ahead + k * wide:ahead + (k + 1) * wide] for k in range(tall)]
        tables.append(Table(prime, tall, wide, lines))
        ahead += tall * wide
    return tuple(tables)


def map_of_numbers(one, other, numbers):
    """The tuple of Tables with these numbers, told place by place, line by line."""
    return tables_of_numbers(one.prime, other.sizes, one.sizes, numbers)


def numbers_of_map(mapping):
    """The numbers of a map's Tables, told place by place, line by line."""
    return [number for table in mapping for line in table.lines for number in line]


def sum_of_maps(one, other, found, many):
    """The sum of these maps from one to other, each so often."""
    numbers = [0] * offsets(one, other)[-1]
    for mapping, often in zip(found, many):
        if often:
            numbers = [a + often * b for a, b in zip(numbers, numbers_of_map(mapping))]
    return map_of_numbers(one, other, numbers)


def plain_map(web):
    """The map from the web to itself that is plain in all rooms."""
    return tuple([plain(web.prime, size) for size in web.sizes])


def leading_equations(one, other):
    """The equations for the numbers of a map as `reduced` tells them."""
    return reduced(one.prime, equations(one, other))


def maps_of_equations(one, other, leading):
    """What maps tells, by these equations."""
    columns = kernel_columns(offsets(one, other)[-1], leading)
    return [map_of_numbers(one, other, column) for column in columns]


def every_map(one, other):
    """What maps tells, however many numbers a map has."""
    return maps_of_equations(one, other, leading_equations(one, other))


def how_many_maps(one, other):
    """What count_maps tells, however many numbers a map has."""
    return offsets(one, other)[-1] - len(leading_equations(one, other))


def check_numbers(one, other):
    """TooMany(300) if a map from one to other has more numbers."""
    if offsets(one, other)[-1] > MOST_NUMBERS:
        raise TooMany(MOST_NUMBERS)


def maps(one, other):
    """The maps from one to other of which all others are sums of multiples, in told order."""
    check_together(one, other)
    check_numbers(one, other)
    return every_map(one, other)


def count_maps(one, other):
    """How many maps `maps` tells."""
    check_together(one, other)
    check_numbers(one, other)
    return how_many_maps(one, other)


def _are_maps(thing):
    """Whether thing could be a map of some webs."""
    if not isinstance(thing, tuple) or not 1 <= len(thing) <= MOST_PLACES:
        return False
    if not all([isinstance(table, Table) for table in thing]):
        return False
    return all([table.prime == thing[0].prime for table in thing])


def behind(one, other):
    """The map that does one and then other."""
    if not _are_maps(one) or not _are_maps(other) or len(one) != len(other):
        raise BadMaps("two maps are wanted")
    for first, second in zip(one, other):
        if first.prime != second.prime or first.tall != second.wide:
            raise BadMaps("these cannot be done one behind the other")
    return tuple([times(second, first) for first, second in zip(one, other)])


def map_back(mapping):
    """The inverses of a map's Tables, which have some."""
    return tuple([inverse(table) for table in mapping])


def leads_back(one, other, thing):
    """Whether thing, which may be anything, is a map with inverses between these webs of one net and prime."""
    return leads(one, other, thing) and all([is_whole(table) for table in thing])


def is_alike(one, other, thing):
    """Whether thing, which may be anything, is a map from one to other with inverses."""
    check_together(one, other)
    return leads_back(one, other, thing)


def web_into(web, columns):
    """The web that the columns, which all arrows lead into themselves, are a map from into web."""
    tables = [solved(columns[head], times(table, columns[tail]))
              for table, (tail, head) in zip(web.tables, web.net.arrows)]
    return Web(web.net, web.prime, tuple([table.wide for table in columns]), tables)


def web_onto(web, lines):
    """The web that the lines are a map to from web, onto it."""
    tables = [solved_across(lines[tail], times(lines[head], table))
              for table, (tail, head) in zip(web.tables, web.net.arrows)]
    return Web(web.net, web.prime, tuple([table.tall for table in lines]), tables)


def kernel_web(one, other, mapping):
    """What the map leads to 0, with its map into one."""
    check_map(one, other, mapping)
    columns = tuple([kernel(table) for table in mapping])
    return (web_into(one, columns), columns)


def image_web(one, other, mapping):
    """What the map gives, with its map into other."""
    check_map(one, other, mapping)
    columns = tuple([leading_columns(table) for table in mapping])
    return (web_into(other, columns), columns)


def rest_web(one, other, mapping):
    """What is left of other without what the map gives, with the map onto it."""
    check_map(one, other, mapping)
    lines = tuple([left_over(table) for table in mapping])
    return (web_onto(other, lines), lines)
