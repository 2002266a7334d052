"""Webs: a room at each place of a net, a table along each arrow."""

from boughwebs.checks import is_list, is_number_to
from boughwebs.errors import BadMaps, BadWeb, OtherNet
from boughwebs.nets import Net, is_row, turned_net
from boughwebs.solving import inverse
from boughwebs.tables import GREATEST, across, corner, empty, is_prime, is_sized, times


def _check_frame(net, prime, sizes):
    """BadWeb for the first of these that is wrong."""
    if not isinstance(net, Net):
        raise BadWeb("net")
    if not is_prime(prime):
        raise BadWeb("prime")
    if not is_row(net, sizes) or not all([is_number_to(size, GREATEST) for size in sizes]):
        raise BadWeb("sizes")


def _are_tables(net, prime, sizes, thing):
    if not is_list(thing) or len(thing) != len(net.arrows):
        return False
    return all([is_sized(table, prime, sizes[head], sizes[tail])
                for table, (tail, head) in zip(thing, net.arrows)])


class Web:
    """A web on a net over a prime: sizes of the rooms, and Tables along the arrows."""

    def __init__(self, net, prime, sizes, tables):
        _check_frame(net, prime, sizes)
        if not _are_tables(net, prime, sizes, tables):
            raise BadWeb("tables")
        self.net = net
        self.prime = prime
        self.sizes = tuple(sizes)
        self.tables = tuple(tables)

    def __eq__(self, other):
        return (isinstance(other, Web) and self.net == other.net and self.prime == other.prime
                and self.sizes == other.sizes and self.tables == other.tables)


def check_web(web):
    """BadWeb(None) unless web is a Web."""
    if not isinstance(web, Web):
        raise BadWeb(None)


def check_all(webs):
    """BadWeb(None) for no Webs, OtherNet unless all are of one net and prime."""
    for web in webs:
        check_web(web)
    for web in webs:
        if web.net != webs[0].net or web.prime != webs[0].prime:
            raise OtherNet("the webs are not of one net and prime")


def check_together(one, other):
    """BadWeb(None) for no Webs, OtherNet unless both are of one net and prime."""
    check_all([one, other])


def bare(net, prime, sizes):
    """The web whose tables are all 0."""
    _check_frame(net, prime, sizes)
    return Web(net, prime, sizes, [empty(prime, sizes[head], sizes[tail]) for tail, head in net.arrows])


def sum_of(webs):
    """Rooms beside one another, tables along the diagonal."""
    if not is_list(webs) or len(webs) == 0:
        raise BadWeb(None)
    check_all(webs)
    first = webs[0]
    sizes = tuple([sum([web.sizes[place] for web in webs]) for place in range(first.net.places)])
    _check_frame(first.net, first.prime, sizes)
    tables = [corner([web.tables[at] for web in webs]) for at in range(len(first.net.arrows))]
    return Web(first.net, first.prime, sizes, tables)


def sum_or_bare(net, prime, webs):
    """The sum of these webs of the net and prime, or the web of empty rooms if there are none."""
    return sum_of(webs) if webs else bare(net, prime, tuple([0] * net.places))


def _are_coordinates(web, thing):
    if not is_list(thing) or len(thing) != web.net.places:
        return False
    return all([is_sized(table, web.prime, size, size) for table, size in zip(thing, web.sizes)])


def changed(web, coordinates):
    """The web in new coordinates: these are a map from web to it."""
    check_web(web)
    if not _are_coordinates(web, coordinates):
        raise BadMaps("square Tables of the sizes are wanted, one for each place")
    backs = [inverse(table) for table in coordinates]
    if any([back is None for back in backs]):
        raise BadMaps("coordinates have inverses")
    tables = [times(coordinates[head], times(table, backs[tail]))
              for table, (tail, head) in zip(web.tables, web.net.arrows)]
    return Web(web.net, web.prime, web.sizes, tables)


def turned_web(web):
    """The web of the turned net, with all tables across."""
    check_web(web)
    return Web(turned_net(web.net), web.prime, web.sizes, [across(table) for table in web.tables])
