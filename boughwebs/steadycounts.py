"""How many webs of a row are steady, and how many have ladders of given rows, for all primes at once."""

from boughwebs.checks import is_list, is_number_to
from boughwebs.countings import arrow_sum
from boughwebs.errors import BadRow, TooMany
from boughwebs.generals import GREATEST_NUMBER, rows_up_to
from boughwebs.nets import check_net, is_row
from boughwebs.packings import packed, raised, unpacked
from boughwebs.steady import check_prices, check_weights, is_lower, slope_of
from boughwebs.tallies import choices_tally

MOST_ROWS = 400


def _is_small(net, thing):
    """Whether thing, which may be anything, is a row of numbers from 0 to 12, not all 0."""
    return is_row(net, thing) and all([is_number_to(number, GREATEST_NUMBER) for number in thing]) and any(thing)


def _check_prices(net, prices, weights):
    check_net(net)
    check_prices(net, prices)
    check_weights(net, weights)


def _check_rows(row):
    """TooMany(400) if more rows lie from the row of noughts up to this one."""
    many = 1
    for number in row:
        many = many * (number + 1)
    if many > MOST_ROWS:
        raise TooMany(MOST_ROWS)


def _packed_choices(most):
    """The packed choices_tally of all sizes up to the most and all their parts."""
    return [[packed(choices_tally(size, part)) for part in range(size + 1)] for size in range(most + 1)]


def _choices(known, row, part):
    """In how many ways spaces of the part's sizes can be chosen in rooms of the row's."""
    found = 1
    for size, less in zip(row, part):
        if 0 < less < size:
            found = found * known[size][less]
    return found


def _left(row, part):
    """What is left of the row without the part; None if the part is somewhere above it."""
    found = tuple([a - b for a, b in zip(row, part)])
    return found if min(found) >= 0 else None


def _packed_steady(net, prices, weights, row):
    """The packed tally of the steady webs of the row.

    Webs are counted with chains of parts whose slopes are all above the row's, an odd number of
    parts against an even one: those that have such a part at all have as many of both.
    """
    own = slope_of(net, prices, weights, row)
    known = _packed_choices(max(row))
    found = {tuple([0] * net.places): -1}
    for goal in rows_up_to(row)[1:]:
        if goal != row and not is_lower(own, slope_of(net, prices, weights, goal)):
            continue
        many = 0
        for part, number in found.items():
            left = _left(goal, part)
            if left is not None:
                many -= raised(number * _choices(known, goal, part), arrow_sum(net, left, goal))
        found[goal] = many
    return found[row]


def steady_tally(net, prices, weights, row):
    """How many webs of the row are steady."""
    _check_prices(net, prices, weights)
    if not _is_small(net, row):
        raise BadRow("numbers from 0 to 12 are wanted, one for each place, not all 0")
    _check_rows(row)
    return unpacked(_packed_steady(net, prices, weights, row))


def _sum_of_rows(rows):
    """The sums, place by place, of one or more rows."""
    return tuple([sum([row[place] for row in rows]) for place in range(len(rows[0]))])


def _are_falling(net, prices, weights, thing):
    """Whether thing, which may be anything, is a list of rows with falling slopes and a sum up to 12."""
    if not is_list(thing) or len(thing) == 0 or not all([_is_small(net, row) for row in thing]):
        return False
    slopes = [slope_of(net, prices, weights, row) for row in thing]
    if not all([is_lower(slopes[k + 1], slopes[k]) for k in range(len(slopes) - 1)]):
        return False
    return max(_sum_of_rows(thing)) <= GREATEST_NUMBER


def ladder_tally(net, prices, weights, rows):
    """How many webs have a ladder whose steps have these rows."""
    _check_prices(net, prices, weights)
    if not _are_falling(net, prices, weights, rows):
        raise BadRow("rows with falling slopes are wanted, whose sum has no number above 12")
    _check_rows(_sum_of_rows(rows))
    known = _packed_choices(max(_sum_of_rows(rows)))
    total = tuple([0] * net.places)
    found = 1
    for row in rows:
        ahead = total
        total = tuple([a + b for a, b in zip(ahead, row)])
        found = found * _packed_steady(net, prices, weights, row) * _choices(known, total, row)
        found = raised(found, arrow_sum(net, row, ahead))
    return unpacked(found)
