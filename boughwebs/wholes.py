"""Wholes: webs of whole numbers, which are webs over every prime field."""

from boughwebs.checks import is_list, is_number_to
from boughwebs.errors import BadMaps, BadWhole, OtherNet
from boughwebs.nets import Net, is_row
from boughwebs.tables import Table, check_prime
from boughwebs.webs import Web
from boughwebs.wholetables import GREATEST_SIZE, are_bounded, as_tuples, determinant_of, is_whole_table
from boughwebs.wholetables import whole_inverse, whole_times

GREATEST_SUM = 30


def are_whole_sizes(net, thing):
    """Whether thing, which may be anything, is a row of numbers from 0 to 12, together at most 30."""
    if not is_row(net, thing) or not all([is_number_to(size, GREATEST_SIZE) for size in thing]):
        return False
    return sum(thing) <= GREATEST_SUM


def _are_tables(net, sizes, thing):
    if not is_list(thing) or len(thing) != len(net.arrows):
        return False
    return all([is_whole_table(table, sizes[head], sizes[tail]) for table, (tail, head) in zip(thing, net.arrows)])


class Whole:
    """A web of whole numbers on a net: sizes of the rooms, and lines of numbers along the arrows."""

    def __init__(self, net, sizes, tables):
        if not isinstance(net, Net):
            raise BadWhole("net")
        if not are_whole_sizes(net, sizes):
            raise BadWhole("sizes")
        if not _are_tables(net, sizes, tables):
            raise BadWhole("tables")
        self.net = net
        self.sizes = tuple(sizes)
        self.tables = tuple([as_tuples(table) for table in tables])

    def __eq__(self, other):
        return (isinstance(other, Whole) and self.net == other.net and self.sizes == other.sizes
                and self.tables == other.tables)


def check_whole(whole):
    """BadWhole(None) unless whole is a Whole."""
    if not isinstance(whole, Whole):
        raise BadWhole(None)


def modulo(whole, prime):
    """The web that the whole is over this prime."""
    check_whole(whole)
    check_prime(prime)
    sizes = whole.sizes
    tables = [Table(prime, sizes[head], sizes[tail], table)
              for table, (tail, head) in zip(whole.tables, whole.net.arrows)]
    return Web(whole.net, prime, sizes, tables)


def _corner(tables, wides):
    """The lines of the tables, of so many columns each, along the diagonal."""
    found = []
    ahead = 0
    for table, wide in zip(tables, wides):
        behind = sum(wides) - ahead - wide
        found = found + [[0] * ahead + list(line) + [0] * behind for line in table]
        ahead += wide
    return found


def sum_of_wholes(wholes):
    """Rooms beside one another, tables along the diagonal."""
    if not is_list(wholes) or len(wholes) == 0:
        raise BadWhole(None)
    for whole in wholes:
        check_whole(whole)
    net = wholes[0].net
    if not all([whole.net == net for whole in wholes]):
        raise OtherNet("the wholes are not of one net")
    sizes = tuple([sum([some.sizes[place] for some in wholes]) for place in range(net.places)])
    if not are_whole_sizes(net, sizes):
        raise BadWhole("sizes")
    tables = [_corner([some.tables[at] for some in wholes], [some.sizes[tail] for some in wholes])
              for at, (tail, head) in enumerate(net.arrows)]
    return Whole(net, sizes, tables)


def _are_coordinates(whole, thing):
    if not is_list(thing) or len(thing) != whole.net.places:
        return False
    if not all([is_whole_table(table, size, size) for table, size in zip(thing, whole.sizes)]):
        return False
    return all([determinant_of(table) in (1, -1) for table in thing])


def changed_whole(whole, coordinates):
    """The whole in new coordinates: these are led to it as maps of webs are."""
    check_whole(whole)
    if not _are_coordinates(whole, coordinates):
        raise BadMaps("a square whole table of determinant 1 or -1 is wanted for each place")
    backs = [whole_inverse(table) for table in coordinates]
    tables = []
    for table, (tail, head) in zip(whole.tables, whole.net.arrows):
        size = whole.sizes[tail]
        table = whole_times(coordinates[head], whole_times(table, backs[tail], size), size)
        if not are_bounded(table):
            raise BadWhole("tables")
        tables.append(table)
    return Whole(whole.net, whole.sizes, tables)
