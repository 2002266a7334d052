"""Parts of a web: what columns span at each place, so that all arrows lead it into itself."""

from itertools import combinations

from boughwebs.checks import is_list
from boughwebs.errors import BadPart, BadTable, TooMany
from boughwebs.maps import check_map, web_into, web_onto
from boughwebs.nets import sink_order
from boughwebs.solving import kernel, left_over, reduced, sparse
from boughwebs.spans import common_span, fetched_span, is_in_span, is_tidy, span_of, tidied
from boughwebs.tables import Table, empty, plain, times
from boughwebs.webs import check_web, turned_web

MOST_PARTS = 2000


def _are_columns(web, thing):
    """Whether all of these, as many as places, are Tables of the web's prime, as tall as the rooms."""
    return len(thing) == web.net.places and all([
        isinstance(table, Table) and table.prime == web.prime and table.tall == size
        for table, size in zip(thing, web.sizes)])


def is_part_of(web, thing):
    """Whether thing, which may be anything, is a part of this web."""
    if not isinstance(thing, tuple) or not _are_columns(web, thing):
        return False
    if not all([is_tidy(table) for table in thing]):
        return False
    return all([is_in_span(thing[head], times(table, thing[tail]))
                for table, (tail, head) in zip(web.tables, web.net.arrows)])


def is_part(web, thing):
    """Whether thing, which may be anything, is a part of the web."""
    check_web(web)
    return is_part_of(web, thing)


def _check_part(web, part):
    if not is_part_of(web, part):
        raise BadPart("a part of the web is wanted")


def row_of_part(part):
    """The widths of the columns, place by place."""
    return tuple([table.wide for table in part])


def part_row(web, part):
    """The row of the part: how many columns it has at each place."""
    check_web(web)
    _check_part(web, part)
    return row_of_part(part)


def no_part(web):
    """The part without columns."""
    check_web(web)
    return tuple([empty(web.prime, size, 0) for size in web.sizes])


def whole_part(web):
    """The part with all columns."""
    check_web(web)
    return tuple([plain(web.prime, size) for size in web.sizes])


def part_web(web, part):
    """The web of the part, with the part as its map into the web."""
    check_web(web)
    _check_part(web, part)
    return (web_into(web, part), tuple(part))


def rest_by(web, part):
    """What rest_of_part tells, of what surely is a part."""
    lines = tuple([left_over(table) for table in part])
    return (web_onto(web, lines), lines)


def rest_of_part(web, part):
    """What is left of the web without the part, with the map onto it."""
    check_web(web)
    _check_part(web, part)
    return rest_by(web, part)


def part_from(web, columns):
    """The least part that holds all these columns: what leads on from them is taken in place by place."""
    check_web(web)
    if not is_list(columns) or not _are_columns(web, columns):
        raise BadTable("a Table is wanted for each place, as tall as the room there")
    found = list(columns)
    for place in reversed(sink_order(web.net)):
        led = [times(table, found[tail]) for table, (tail, head) in zip(web.tables, web.net.arrows) if head == place]
        found[place] = span_of(web.prime, web.sizes[place], [columns[place]] + led)
    return tuple(found)


def _check_parts(web, one, other):
    check_web(web)
    _check_part(web, one)
    _check_part(web, other)


def part_sum(web, one, other):
    """What both parts span together."""
    _check_parts(web, one, other)
    return tuple([span_of(web.prime, size, pair) for size, pair in zip(web.sizes, list(zip(one, other)))])


def common_part(web, one, other):
    """What is in both parts."""
    _check_parts(web, one, other)
    return tuple([common_span(first, second) for first, second in zip(one, other)])


def lies_within(one, other):
    """Whether one part lies in another one of the same web."""
    return all([is_in_span(second, first) for first, second in zip(one, other)])


def is_within(web, one, other):
    """Whether the one part lies in the other."""
    _check_parts(web, one, other)
    return lies_within(one, other)


def carried(one, other, mapping, part):
    """The part of other to which the map leads the part of one."""
    check_map(one, other, mapping)
    _check_part(one, part)
    return tuple([tidied(times(table, columns)) for table, columns in zip(mapping, part)])


def fetched_by(mapping, part):
    """What fetched tells, of what surely are a map and a part."""
    return tuple([fetched_span(table, columns) for table, columns in zip(mapping, part)])


def fetched(one, other, mapping, part):
    """The part of one that the map leads into the part of other."""
    check_map(one, other, mapping)
    _check_part(other, part)
    return fetched_by(mapping, part)


def _count_spaces(prime, size):
    """How many spaces columns of this size span: by what those of one and of two numbers less span."""
    ahead, found, power = 0, 1, 1
    for _ in range(size):
        ahead, found = found, 2 * found + (power - 1) * ahead
        power = power * prime
    return found


def _fillings(prime, size, firsts):
    """All lines in reduced form whose leading columns are these."""
    free = [(at, k) for at, first in enumerate(firsts) for k in range(first + 1, size) if k not in firsts]
    found = [[[1 if k == first else 0 for k in range(size)] for first in firsts]]
    for at, spot in free:
        more = []
        for lines in found:
            for number in range(prime):
                more.append([line[:spot] + [number] + line[spot + 1:] if row == at else line
                             for row, line in enumerate(lines)])
        found = more
    return found


def _leading_choices(size, many):
    return [list(firsts) for firsts in combinations(range(size), many)]


def _all_spaces(prime, size):
    """The tidy columns of all spaces that columns of this size span."""
    found = []
    for many in range(size + 1):
        for firsts in _leading_choices(size, many):
            for lines in _fillings(prime, size, firsts):
                columns = [[line[k] for line in lines] for k in range(size)]
                found.append(Table(prime, size, many, columns))
    return found


def _outflows(web):
    """For each place the pairs (head, Table) of the arrows that lead away from it."""
    found = [[] for _ in web.sizes]
    for table, (tail, head) in zip(web.tables, web.net.arrows):
        found[tail].append((head, table))
    return found


def _led_to_nothing(prime, size, tables):
    """How many dimensions of columns of this size all these Tables lead to 0."""
    lines = [line for table in tables for line in table.lines]
    return size - len(reduced(prime, sparse(lines))) if lines else size


def _free_spaces(web):
    """For each place how many spaces all arrows lead to 0: whatever is chosen at their heads, these can be chosen."""
    return [_count_spaces(web.prime, _led_to_nothing(web.prime, size, [table for _, table in some]))
            for size, some in zip(web.sizes, _outflows(web))]


def _product(numbers):
    found = 1
    for number in numbers:
        found = found * number
    return found


def _check_many(many):
    if many > MOST_PARTS:
        raise TooMany(MOST_PARTS)


def _check_at_once(web, free):
    """TooMany(2000) if rooms alone tell that there are more parts.

    Parts are: at each place any space that is led to 0; or any that lies over all that is led in;
    or any at one place, with the whole rooms at all to which it may lead, and nothing elsewhere.
    """
    _check_many(_product(free))
    _check_many(1 + sum([_count_spaces(web.prime, size) - 1 for size in web.sizes]))
    _check_many(_product(_free_spaces(turned_web(web))))


def _room_for(prime, size, outflow, chosen):
    """The tidy columns, of this size, of all that arrows lead into what is chosen at their heads."""
    found = plain(prime, size)
    for head, table in outflow:
        if chosen[head].wide < chosen[head].tall:
            line = times(left_over(chosen[head]), times(table, found))
            found = tidied(times(found, kernel(line)))
    return found


def _spaces_in(room, known):
    """The tidy columns of all spaces in the room."""
    if room.wide not in known:
        known[room.wide] = _all_spaces(room.prime, room.wide)
    if room.wide == room.tall:
        return known[room.wide]
    return [times(room, columns) for columns in known[room.wide]]


def _rooms_for(web, begun, place, later):
    """For each begun choice the room at the place; TooMany(2000) if there are more parts, later as many times."""
    outflow = _outflows(web)[place]
    heads = sorted({head: True for head, _ in outflow})
    known = {}
    found = []
    many = len(begun)
    # The greatest choices leave the greatest rooms: they come last.
    for chosen in reversed(begun):
        key = tuple([chosen[head].lines for head in heads])
        if key not in known:
            known[key] = _room_for(web.prime, web.sizes[place], outflow, chosen)
        many += _count_spaces(web.prime, known[key].wide) - 1
        _check_many(many * later)
        found.append((chosen, key, known[key]))
    return found


def _chosen_further(web, begun, place, later, known):
    """All begun choices of columns, with all that can be chosen at the place."""
    spaces = {}
    found = []
    for chosen, key, room in reversed(_rooms_for(web, begun, place, later)):
        if key not in spaces:
            spaces[key] = _spaces_in(room, known)
        for columns in spaces[key]:
            more = list(chosen)
            more[place] = columns
            found.append(more)
    return found


def all_parts(web):
    """All parts, ascending by rows, then by their lines place by place."""
    check_web(web)
    free = _free_spaces(web)
    _check_at_once(web, free)
    begun = [[None] * web.net.places]
    order = sink_order(web.net)
    known = {}
    for at, place in enumerate(order):
        later = _product([free[other] for other in order[at + 1:]])
        begun = _chosen_further(web, begun, place, later, known)
    told = [(row_of_part(tables), tuple([table.lines for table in tables]), at) for at, tables in enumerate(begun)]
    return [tuple(begun[at]) for _, _, at in sorted(told)]
