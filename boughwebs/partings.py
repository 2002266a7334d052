"""Partings: a map from a web to itself parts it into what the map keeps and what it leads to 0 in the end."""

from boughwebs.errors import BadMaps
from boughwebs.maps import is_alike, leads, web_into
from boughwebs.solving import inverse, is_whole, kernel, leading_columns
from boughwebs.tables import Table, beside, times
from boughwebs.webs import Web, check_web, sum_of


def _check_turn(web, turn):
    check_web(web)
    if not leads(web, web, turn):
        raise BadMaps("a map from the web to itself is wanted")


def done_often(table, size):
    """The square table done at least so often: then it does not lead less to 0 than done more often."""
    often = 1
    while often < size:
        table = times(table, table)
        often = 2 * often
    return table


def parted(web, turn):
    """The triple (firm, fading, way) of the webs into which turn parts the web."""
    _check_turn(web, turn)
    most = max(web.sizes)
    powers = [done_often(table, most) for table in turn]
    firm = [leading_columns(power) for power in powers]
    fading = [kernel(power) for power in powers]
    way = tuple([beside([first, second]) for first, second in zip(firm, fading)])
    return (web_into(web, firm), web_into(web, fading), way)


def _are_two_webs(web, firm, fading):
    """Whether these are two webs with a sum of the sizes of web."""
    if not isinstance(firm, Web) or not isinstance(fading, Web):
        return False
    if firm.net != web.net or fading.net != web.net or firm.prime != web.prime or fading.prime != web.prime:
        return False
    return all([a + b == size for a, b, size in zip(firm.sizes, fading.sizes, web.sizes)])


def _is_parted_at(table, way, size):
    """Whether the table, in the coordinates of way, keeps the first `size` of them and fades on the others."""
    told = times(inverse(way), times(table, way))
    first = [line[:size] for line in told.lines[:size]]
    last = [line[size:] for line in told.lines[size:]]
    corners = [line[size:] for line in told.lines[:size]] + [line[:size] for line in told.lines[size:]]
    rest = told.tall - size
    if any([number for line in corners for number in line]):
        return False
    if not is_whole(Table(told.prime, size, size, first)):
        return False
    faded = done_often(Table(told.prime, rest, rest, last), rest)
    return not any([number for line in faded.lines for number in line])


def is_parted(web, turn, thing):
    """Whether thing, which may be anything, is such a triple as parted tells."""
    _check_turn(web, turn)
    if not isinstance(thing, tuple) or len(thing) != 3:
        return False
    firm, fading, way = thing
    if not _are_two_webs(web, firm, fading) or not is_alike(sum_of([firm, fading]), web, way):
        return False
    return all([_is_parted_at(table, columns, size) for table, columns, size in zip(turn, way, firm.sizes)])
