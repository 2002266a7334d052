"""Pairs of tables: webs on two arrows side by side, the names of the least ones, and sums of these."""

from boughwebs.checks import is_number, is_number_to, is_same
from boughwebs.errors import BadLeast, BadPairKind, NotPair
from boughwebs.nets import Net
from boughwebs.polys import companion_of, is_bare, power_of
from boughwebs.tables import GREATEST, Table, beside, check_prime, empty, over, plain
from boughwebs.webs import Web, sum_or_bare


def pair_net():
    """The net of two places with two arrows from the first to the second."""
    return Net(2, ((0, 1), (0, 1)))


def check_pair(web):
    """NotPair unless web is a Web on the net of pairs."""
    if not isinstance(web, Web) or web.net != pair_net():
        raise NotPair("a web on two arrows side by side is wanted")


def _is_times(thing, degree):
    """Whether thing, which may be anything, is a number from 1 on, so many times the degree at most 60."""
    return is_number(thing) and 1 <= thing and thing * degree <= GREATEST


def names_least(prime, thing):
    """Whether thing, which may be anything, is the name of a least pair over this prime."""
    if not isinstance(thing, tuple) or len(thing) not in (2, 3):
        return False
    word = thing[0]
    if len(thing) == 3:
        return is_same("turn", word) and is_bare(prime, thing[1]) and _is_times(thing[2], len(thing[1]) - 1)
    if is_same("far", word):
        return _is_times(thing[1], 1)
    return (is_same("up", word) or is_same("down", word)) and is_number_to(thing[1], GREATEST - 1)


def is_least_name(prime, thing):
    """Whether thing, which may be anything, is the name of a least pair over this prime."""
    check_prime(prime)
    return names_least(prime, thing)


def check_least_name(prime, name):
    """BadLeast unless name is that of a least pair over this prime."""
    if not names_least(prime, name):
        raise BadLeast("the name of a least pair is wanted")


def sizes_of_name(name):
    """The sizes of the least pair of this name."""
    if name[0] == "up":
        return (name[1], name[1] + 1)
    if name[0] == "down":
        return (name[1] + 1, name[1])
    size = name[1] if name[0] == "far" else (len(name[1]) - 1) * name[2]
    return (size, size)


def least_sizes(prime, name):
    """The sizes of the least pair of this name."""
    check_prime(prime)
    check_least_name(prime, name)
    return sizes_of_name(name)


def _slanted(prime, many):
    """The square Table with 1 close below the diagonal, 0 elsewhere."""
    return Table(prime, many, many, [[1 if k == at - 1 else 0 for k in range(many)] for at in range(many)])


def web_of_name(prime, name):
    """The least pair of this name."""
    word, size = name[0], min(sizes_of_name(name))
    unit = plain(prime, size)
    if word == "up":
        line = empty(prime, 1, size)
        tables = [over([unit, line]), over([line, unit])]
    elif word == "down":
        column = empty(prime, size, 1)
        tables = [beside([unit, column]), beside([column, unit])]
    elif word == "far":
        tables = [_slanted(prime, size), unit]
    else:
        tables = [unit, companion_of(prime, power_of(prime, name[1], name[2]))]
    return Web(pair_net(), prime, sizes_of_name(name), tables)


def least_pair(prime, name):
    """The least pair of this name."""
    check_prime(prime)
    check_least_name(prime, name)
    return web_of_name(prime, name)


def sizes_of_names(names):
    """The sizes of the sum of the least pairs of these names."""
    sizes = [sizes_of_name(name) for name in names]
    return (sum([one for one, _ in sizes]), sum([other for _, other in sizes]))


def check_pair_kind(prime, kind):
    """BadPairKind for what is no kind of pairs over this prime."""
    if not isinstance(kind, tuple):
        raise BadPairKind(None)
    for at, name in enumerate(kind):
        if not names_least(prime, name) or (at > 0 and name < kind[at - 1]):
            raise BadPairKind(at)
    if max(sizes_of_names(kind)) > GREATEST:
        raise BadPairKind(None)


def are_pair_names(prime, thing):
    """Whether thing, which may be anything, is a kind of pairs over this prime."""
    if not isinstance(thing, tuple) or not all([names_least(prime, name) for name in thing]):
        return False
    return list(thing) == sorted(thing) and max(sizes_of_names(thing)) <= GREATEST


def is_pair_kind(prime, thing):
    """Whether thing, which may be anything, is a kind of pairs over this prime."""
    check_prime(prime)
    return are_pair_names(prime, thing)


def sum_of_names(prime, kind):
    """What sum_of_kind tells, of what surely is a kind."""
    return sum_or_bare(pair_net(), prime, [web_of_name(prime, name) for name in kind])


def sum_of_kind(prime, kind):
    """The sum of the least pairs of the kind, in order."""
    check_prime(prime)
    check_pair_kind(prime, kind)
    return sum_of_names(prime, kind)
