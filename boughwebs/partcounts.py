"""How many parts of each row a web of a kind has, for all primes at once."""

from boughwebs.countings import check_small_kind
from boughwebs.errors import TooMany
from boughwebs.generals import rows_up_to
from boughwebs.kinds import kind_row
from boughwebs.loom import loom, spots_ahead, spots_behind
from boughwebs.packings import lowered, raised, unpacked
from boughwebs.roots import check_good, form_ahead, highest

MOST_ROWS = 700


def _check_rows(row):
    """TooMany(700) if more rows lie from the row of noughts up to this one."""
    many = 1
    for number in row:
        many = many * (number + 1)
    if many > MOST_ROWS:
        raise TooMany(MOST_ROWS)


def _up_to(one, other, cap):
    """The sum of two rows if it is nowhere above the cap, otherwise None."""
    total = tuple([a + b for a, b in zip(one, other)])
    for number, most in zip(total, cap):
        if number > most:
            return None
    return total


def _power(ahead, row, part):
    """pair_form of a row, told by its form_ahead, and of what is left of another row."""
    return sum([a * (b - c) for a, b, c in zip(ahead, row, part)])


def _put_together(net, one, row, other, cap):
    """The parts, of rows up to the cap, of the sum of two webs without joinings of the other to the one.

    Parts are told by dicts from rows to packed tallies. Each part of the sum has a part of one, a web
    of this row, in it, and is led onto a part of other: there are as many as maps lead from this to
    what is left of one.
    """
    found = {}
    for part, many in other.items():
        ahead = form_ahead(net, part)
        for some, number in one.items():
            total = _up_to(part, some, cap)
            if total is not None:
                more = raised(many * number, _power(ahead, row, some))
                found[total] = found.get(total, 0) + more
    return found


def _parts_of_sum(net, told, rows, cap):
    """The parts, of rows up to the cap, of the sum of the least webs of these roots, which stand as in the loom."""
    found = {tuple([0] * net.places): 1}
    for row in rows:
        found = _put_together(net, told[row], row, found, cap)
    return found


def _parts_of_next(net, last, parts, middle, root):
    """The parts of a root's least web by those of the last root of its place, and of what lies between.

    Each pair of a part of the last and one of the root makes parts of the middle, but for that of no
    columns and the whole one.
    """
    rest = {row: middle.get(row, 0) for row in rows_up_to(root)}
    found = {}
    for row in rows_up_to(root):
        if rest[row]:
            ahead = form_ahead(net, row)
            found[row] = lowered(rest[row], _power(ahead, last, [0] * net.places))
            for part, number in parts.items():
                total = _up_to(row, part, root)
                if total is not None:
                    rest[total] -= raised(found[row] * number, _power(ahead, last, part))
    found[root] = 1
    return found


def _parts_of_roots(net, wanted):
    """The parts of the least webs of all roots of the loom, up to the last one that is wanted."""
    spots = {(place, turn): root for place, turn, root in loom(net)}
    left = {root: True for root in wanted}
    found = {}
    for (place, turn), root in spots.items():
        if not left:
            return found
        if turn == 0:
            ahead = [spots[spot] for spot in spots_ahead(net, place, turn) if spot in spots]
            found[root] = _parts_of_sum(net, found, ahead, root)
            found[root][root] = 1
        else:
            last = spots[place, turn - 1]
            between = [spots[spot] for spot in spots_behind(net, place, turn - 1) if spot in spots]
            middle = _parts_of_sum(net, found, between, root)
            found[root] = _parts_of_next(net, last, found[last], middle, root)
        if root in left:
            del left[root]
    return found


def part_tallies(net, kind):
    """For all rows of parts of a web of this kind how many of its parts have this row."""
    check_good(net)
    check_small_kind(net, kind)
    row = kind_row(net, kind)
    _check_rows(row)
    _check_rows(highest(net))
    told = _parts_of_roots(net, kind)
    roots = []
    for root in told:
        roots = roots + [root] * kind.get(root, 0)
    found = _parts_of_sum(net, told, roots, row)
    return {part: unpacked(found[part]) for part in sorted(found)}
