"""Parts of a web: what columns span at each place, so that all arrows lead it into itself."""

from itertools import combinations

from boughwebs.checks import is_list
from boughwebs.errors import BadPart, BadTable, TooMany
from boughwebs.maps import check_map, web_into, web_onto
from boughwebs.nets import sink_order
from boughwebs.solving import kernel, left_over
from boughwebs.spans import common_span, fetched_span, is_in_span, is_tidy, span_of, tidied
from boughwebs.tables import Table, empty, plain, times
from boughwebs.webs import check_web

MOST_PARTS = 2000


def _are_columns(web, thing):
    """Whether all of these, as many as places, are Tables of the web's prime, as tall as the rooms."""
    return len(thing) == web.net.places and all([
        isinstance(table, Table) and table.prime == web.prime and table.tall == size
        for table, size in zip(thing, web.sizes)])


def is_part_of(web, thing):
    """Whether thing, which may be anything, is a part of this web."""
    if not isinstance(thing, tuple) or not _are_columns(web, thing):
        return False
    if not all([is_tidy(table) for table in thing]):
        return False
    return all([is_in_span(thing[head], times(table, thing[tail]))
                for table, (tail, head) in zip(web.tables, web.net.arrows)])


def is_part(web, thing):
    """Whether thing, which may be anything, is a part of the web."""
    check_web(web)
    return is_part_of(web, thing)


def _check_part(web, part):
    if not is_part_of(web, part):
        raise BadPart("a part of the web is wanted")


def row_of_part(part):
    """The widths of the columns, place by place."""
    return tuple([table.wide for table in part])


def part_row(web, part):
    """The row of the part: how many columns it has at each place."""
    check_web(web)
    _check_part(web, part)
    return row_of_part(part)


def no_part(web):
    """The part without columns."""
    check_web(web)
    return tuple([empty(web.prime, size, 0) for size in web.sizes])


def whole_part(web):
    """The part with all columns."""
    check_web(web)
    return tuple([plain(web.prime, size) for size in web.sizes])


def part_web(web, part):
    """The web of the part, with the part as its map into the web."""
    check_web(web)
    _check_part(web, part)
    return (web_into(web, part), tuple(part))


def rest_by(web, part):
    """What rest_of_part tells, of what surely is a part."""
    lines = tuple([left_over(table) for table in part])
    return (web_onto(web, lines), lines)


def rest_of_part(web, part):
    """What is left of the web without the part, with the map onto it."""
    check_web(web)
    _check_part(web, part)
    return rest_by(web, part)


def part_from(web, columns):
    """The least part that holds all these columns: what leads on from them is taken in place by place."""
    check_web(web)
    if not is_list(columns) or not _are_columns(web, columns):
        raise BadTable("a Table is wanted for each place, as tall as the room there")
    found = list(columns)
    for place in reversed(sink_order(web.net)):
        led = [times(table, found[tail]) for table, (tail, head) in zip(web.tables, web.net.arrows) if head == place]
        found[place] = span_of(web.prime, web.sizes[place], [columns[place]] + led)
    return tuple(found)


def _check_parts(web, one, other):
    check_web(web)
    _check_part(web, one)
    _check_part(web, other)


def part_sum(web, one, other):
    """What both parts span together."""
    _check_parts(web, one, other)
    return tuple([span_of(web.prime, size, pair) for size, pair in zip(web.sizes, list(zip(one, other)))])


def common_part(web, one, other):
    """What is in both parts."""
    _check_parts(web, one, other)
    return tuple([common_span(first, second) for first, second in zip(one, other)])


def lies_within(one, other):
    """Whether one part lies in another one of the same web."""
    return all([is_in_span(second, first) for first, second in zip(one, other)])


def is_within(web, one, other):
    """Whether the one part lies in the other."""
    _check_parts(web, one, other)
    return lies_within(one, other)


def carried(one, other, mapping, part):
    """The part of other to which the map leads the part of one."""
    check_map(one, other, mapping)
    _check_part(one, part)
    return tuple([tidied(times(table, columns)) for table, columns in zip(mapping, part)])


def fetched_by(mapping, part):
    """What fetched tells, of what surely are a map and a part."""
    return tuple([fetched_span(table, columns) for table, columns in zip(mapping, part)])


def fetched(one, other, mapping, part):
    """The part of one that the map leads into the part of other."""
    check_map(one, other, mapping)
    _check_part(other, part)
    return fetched_by(mapping, part)


def _count_spaces(prime, size):
    """How many spaces columns of this size span: by what those of one and of two numbers less span."""
    ahead, found, power = 0, 1, 1
    for _ in range(size):
        ahead, found = found, 2 * found + (power - 1) * ahead
        power = power * prime
    return found


def _fillings(prime, size, firsts):
    """All lines in reduced form whose leading columns are these."""
    free = [(at, k) for at, first in enumerate(firsts) for k in range(first + 1, size) if k not in firsts]
    found = [[[1 if k == first else 0 for k in range(size)] for first in firsts]]
    for at, spot in free:
        more = []
        for lines in found:
            for number in range(prime):
                more.append([line[:spot] + [number] + line[spot + 1:] if row == at else line
                             for row, line in enumerate(lines)])
        found = more
    return found


def _leading_choices(size, many):
    return [list(firsts) for firsts in combinations(range(size), many)]


def _all_spaces(prime, size):
    """The tidy columns of all spaces that columns of this size span."""
    found = []
    for many in range(size + 1):
        for firsts in _leading_choices(size, many):
            for lines in _fillings(prime, size, firsts):
                columns = [[line[k] for line in lines] for k in range(size)]
                found.append(Table(prime, size, many, columns))
    return found


def _room_for(web, chosen, place):
    """The tidy columns of all that arrows lead from the place into what is chosen at their heads."""
    lines = [times(left_over(chosen[head]), table)
             for table, (tail, head) in zip(web.tables, web.net.arrows) if tail == place]
    found = plain(web.prime, web.sizes[place])
    for line in lines:
        found = tidied(times(found, kernel(times(line, found))))
    return found


def _chosen_further(web, begun, place, known):
    """All begun choices of columns, with all that can be chosen at the place; TooMany(2000) if there are more.

    Each choice can go on with no columns at all, so that there are at least as many parts.
    """
    rooms = [_room_for(web, chosen, place) for chosen in begun]
    if sum([_count_spaces(web.prime, room.wide) for room in rooms]) > MOST_PARTS:
        raise TooMany(MOST_PARTS)
    found = []
    for chosen, room in zip(begun, rooms):
        if room.wide not in known:
            known[room.wide] = _all_spaces(web.prime, room.wide)
        for columns in known[room.wide]:
            more = {other: chosen[other] for other in chosen}
            more[place] = times(room, columns)
            found.append(more)
    return found


def all_parts(web):
    """All parts, ascending by rows, then by their lines place by place."""
    check_web(web)
    begun = [{}]
    known = {}
    for place in sink_order(web.net):
        begun = _chosen_further(web, begun, place, known)
    told = []
    for at, chosen in enumerate(begun):
        tables = [chosen[place] for place in range(web.net.places)]
        told.append((row_of_part(tables), tuple([table.lines for table in tables]), at))
    return [tuple([begun[at][other] for other in range(web.net.places)]) for _, _, at in sorted(told)]
