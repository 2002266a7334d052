"""Round nets: the family of webs of the row whose form is 0, told by points; how many unlike webs any net has."""

from boughwebs.checks import is_number_to
from boughwebs.errors import BadPoint, BadRow, NotRound, NotSo
from boughwebs.leasts import least_web, shown_least
from boughwebs.maps import map_back
from boughwebs.nets import Net, check_net, check_row, is_row, sinks, sources
from boughwebs.roots import highest, pair_value, settled_row
from boughwebs.solving import count_whole_over, inverse_of, to_power
from boughwebs.tables import Table, check_prime, times
from boughwebs.webs import Web, check_web

GREATEST_NUMBER = 6


def check_round(net):
    """BadNet(None) for no Net, NotRound for a net that is not round; the least row above 0 whose form is 0."""
    check_net(net)
    row = settled_row(net)
    if row is None or pair_value(net, row, row) != 0:
        raise NotRound("the least form of the net's rows is not 0")
    return row


def family_place(net):
    """The least sink or source with 1 in the row of the net."""
    row = check_round(net)
    ends = sinks(net) + sources(net)
    return min([place for place in ends if row[place] == 1])


def _other_places(net, place):
    return [other for other in range(net.places) if other != place]


def _rest_without(net, place):
    """The net of the other places and the arrows between them."""
    others = _other_places(net, place)
    arrows = [(others.index(tail), others.index(head)) for tail, head in net.arrows if place not in (tail, head)]
    return Net(net.places - 1, arrows)


def rest_net(net):
    """The net of the places other than the family place, and the arrows between them."""
    return _rest_without(net, family_place(net))


def defect(net, row):
    """pair_form of the row of the net and this one."""
    round_row = check_round(net)
    check_row(net, row)
    return pair_value(net, round_row, row)


def points(prime):
    """The points over the prime: (0, 1), then (1, a) for each number a."""
    check_prime(prime)
    return [(0, 1)] + [(1, a) for a in range(prime)]


def _is_point(prime, thing):
    if not isinstance(thing, tuple) or len(thing) != 2 or not all([is_number_to(a, prime - 1) for a in thing]):
        return False
    return thing[0] == 1 or thing == (0, 1)


def _cut(numbers, sizes):
    """The numbers cut into lists of so many each."""
    found = []
    for size in sizes:
        found.append(numbers[:size])
        numbers = numbers[size:]
    return found


def family_web(net, prime, point):
    """The web of the net's row whose family place is joined to the rest by the numbers of the point."""
    row = check_round(net)
    check_prime(prime)
    if not _is_point(prime, point):
        raise BadPoint("a point over the prime is wanted")
    place = family_place(net)
    rest = _rest_without(net, place)
    told = list(least_web(rest, prime, highest(rest)).tables)
    near = [tail if head == place else head for tail, head in net.arrows if place in (tail, head)]
    parts = _cut(list(point), [row[other] for other in near])
    tables = []
    for tail, head in net.arrows:
        if tail == place:
            tables.append(Table(prime, row[head], 1, [[number] for number in parts[0]]))
            parts = parts[1:]
        elif head == place:
            tables.append(Table(prime, 1, row[tail], [parts[0]]))
            parts = parts[1:]
        else:
            tables.append(told[0])
            told = told[1:]
    return Web(net, prime, row, tables)


def _web_without(web, place):
    """The web without the room at the place."""
    tables = [table for table, arrow in zip(web.tables, web.net.arrows) if place not in arrow]
    others = _other_places(web.net, place)
    sizes = tuple([web.sizes[other] for other in others])
    return Web(_rest_without(web.net, place), web.prime, sizes, tables)


def _joining_numbers(web, place, shown):
    """The numbers along the arrows of the place, in the coordinates of the rest's least web."""
    others = _other_places(web.net, place)
    backs = map_back(shown)
    found = []
    for table, (tail, head) in zip(web.tables, web.net.arrows):
        if tail == place:
            found = found + [line[0] for line in times(backs[others.index(head)], table).lines]
        elif head == place:
            found = found + list(times(table, shown[others.index(tail)]).lines[0])
    return found


def family_point(web):
    """The point whose family web is alike to the web; None if there is none."""
    check_web(web)
    row = check_round(web.net)
    if web.sizes != row:
        raise NotSo("a web of the net's row is wanted")
    place = family_place(web.net)
    # Maps of the rest's least web to itself are its multiples: they do not change the point.
    shown = shown_least(_web_without(web, place))
    if shown is None:
        return None
    one, other = _joining_numbers(web, place, shown)
    if one:
        return (1, other * inverse_of(one, web.prime) % web.prime)
    return (0, 1) if other else None


def unlike_webs(net, prime, row):
    """How many webs of the row there are at least no two of which are alike."""
    check_net(net)
    check_prime(prime)
    if not is_row(net, row) or not all([is_number_to(number, GREATEST_NUMBER) for number in row]) or not any(row):
        raise BadRow("numbers from 0 to 6 are wanted, not all 0")
    many = sum([row[tail] * row[head] for tail, head in net.arrows])
    below = 1
    for number in row:
        below = below * count_whole_over(prime, number)
    return 0 - (0 - (prime - 1) * to_power(prime, many)) // below
