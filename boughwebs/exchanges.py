"""Exchanges: the webs of one splitting put in the place of those of another one."""

from boughwebs.checks import is_number_to, is_same
from boughwebs.errors import BadNumber, BadSplit, TooMany
from boughwebs.maps import is_alike, map_back
from boughwebs.solving import inverse, is_whole
from boughwebs.splits import MOST_TURNS, is_split
from boughwebs.tables import Table, times


def _judged(web, thing):
    """Whether thing is a splitting of the web; None if too many maps would have to be judged."""
    try:
        return is_split(web, thing)
    except TooMany:
        return None


def _judged_both(web, one, other):
    """BadSplit unless both may be splittings of the web; what is judged of them."""
    told = [_judged(web, one), _judged(web, other)]
    if False in told:
        raise BadSplit("a splitting of the web is wanted")
    return told


def _check_judged(told):
    """TooMany(600) if one of two splittings could not be judged; this error comes behind all others."""
    if None in told:
        raise TooMany(MOST_TURNS)


def _check_splits(web, one, other):
    _check_judged(_judged_both(web, one, other))


def _grid(one, other):
    """For each place the lines that lead the coordinates of the sum of other's webs into those of one's."""
    return [[list(line) for line in times(inverse(back), way).lines] for back, way in zip(one[1], other[1])]


def _starts(webs):
    """For each web how many coordinates of the sum of all stand ahead of its own, place by place."""
    found = []
    ahead = [0] * (len(webs[0].sizes) if webs else 0)
    for web in webs:
        found.append(ahead)
        ahead = [a + size for a, size in zip(ahead, web.sizes)]
    return found


def _block(grid, prime, sizes, tops, lefts):
    """The map of these sizes that stands in the grid below and to the right of these many numbers."""
    return [Table(prime, size, size, [line[left:left + size] for line in lines[top:top + size]])
            for lines, size, top, left in zip(grid, sizes, tops, lefts)]


def _fitting_block(grid, one, other):
    """The block from one web to another, each with what stands ahead, if it has inverses; otherwise None."""
    (web, tops), (some, lefts) = one, other
    if web.sizes != some.sizes:
        return None
    block = _block(grid, web.prime, web.sizes, tops, lefts)
    return block if all([is_whole(table) for table in block]) else None


def _framed(split):
    return list(zip(split[0], _starts(split[0])))


def exchange(web, one, other, at):
    """The least index of other's webs so that it and one's web at this index can be put for each other."""
    told = _judged_both(web, one, other)
    if not is_number_to(at, len(one[0]) - 1):
        raise BadNumber("at")
    _check_judged(told)
    there, back = _grid(one, other), _grid(other, one)
    first = _framed(one)[at]
    for to, second in enumerate(_framed(other)):
        if _fitting_block(there, first, second) is not None and _fitting_block(back, second, first) is not None:
            return to
    return None


def _cleared(lines, block, top, left):
    """The lines with the block made plain, and with 0 below it."""
    size, prime = block.tall, block.prime
    known = Table(prime, size, len(lines), lines[top:top + size])
    known = times(inverse(block), known).lines
    found = lines[:top] + [list(line) for line in known]
    for line in lines[top + size:]:
        rest = line
        for many, some in zip(line[left:left + size], known):
            if many:
                rest = [(a - many * b) % prime for a, b in zip(rest, some)]
        found.append(rest)
    return found


def _first_fitting(grid, first, framed, choices):
    """The first of these indexes of framed webs that has a block with inverses, and the block; None if none has."""
    for to in choices:
        block = _fitting_block(grid, first, framed[to])
        if block is not None:
            return (to, block)
    return None


def _put_in(one, other, choices):
    """The triples (at, to, block) of webs of other put one after another into one; None if one cannot be.

    For each index at the first of its choices is taken that is still free and leaves a splitting:
    that has a block with inverses in the grid as it stands after those before.
    """
    grid = _grid(one, other)
    framed = _framed(other)
    found = []
    for at, first in enumerate(_framed(one)):
        taken = [to for _, to, _ in found]
        fitting = _first_fitting(grid, first, framed, [to for to in choices[at] if to not in taken])
        if fitting is None:
            return None
        to, block = fitting
        grid = [_cleared(lines, table, top, left)
                for lines, table, top, left in zip(grid, block, first[1], framed[to][1])]
        found.append((at, to, block))
    return found


def _put_all(one, other):
    return _put_in(one, other, [list(range(len(other[0]))) for _ in one[0]])


def exchanges(web, one, other):
    """The pairs (at, to) of webs of other that put one after another into one leave splittings."""
    _check_splits(web, one, other)
    return [(at, to) for at, to, block in _put_all(one, other)]


def _are_pairs(thing, many, side):
    """Whether thing is a list of so many pairs that have at this side each of so many indexes once."""
    if not isinstance(thing, list) or len(thing) != many:
        return False
    for pair in thing:
        if not isinstance(pair, tuple) or len(pair) != 2 or not is_number_to(pair[side], many - 1):
            return False
    return len({pair[side]: True for pair in thing}) == many


def is_exchanges(web, one, other, thing):
    """Whether thing, which may be anything, is such a list as exchanges tells."""
    _check_splits(web, one, other)
    if not _are_pairs(thing, len(one[0]), 1):
        return False
    if not all([is_same(at, pair[0]) for at, pair in enumerate(thing)]):
        return False
    return _put_in(one, other, [[to] for at, to in thing]) is not None


def matched(web, one, other):
    """For each of one's webs the pair of the index of one of other's, each once, and a map to it with an inverse."""
    _check_splits(web, one, other)
    return [(to, map_back(block)) for at, to, block in _put_all(one, other)]


def is_matched(web, one, other, thing):
    """Whether thing, which may be anything, is such a list as matched tells."""
    _check_splits(web, one, other)
    if not _are_pairs(thing, len(one[0]), 0):
        return False
    return all([is_alike(some, other[0][to], mapping) for some, (to, mapping) in zip(one[0], thing)])
