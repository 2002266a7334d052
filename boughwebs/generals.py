"""General rows: which rows the parts of every web of a row have, and what follows for maps and joinings."""

from boughwebs.checks import is_number_to
from boughwebs.errors import BadRow, TooMany
from boughwebs.nets import check_net, is_row
from boughwebs.roots import form_ahead, pair_value

GREATEST_NUMBER = 12
MOST_ROWS = 250


def check_small_row(net, row):
    """BadRow unless row is one of numbers from 0 to 12."""
    if not is_row(net, row) or not all([is_number_to(number, GREATEST_NUMBER) for number in row]):
        raise BadRow("numbers from 0 to 12 are wanted, one for each place")


def check_few_rows(row):
    """TooMany(250) if more rows lie from the row of noughts up to this one."""
    many = 1
    for number in row:
        many = many * (number + 1)
    if many > MOST_ROWS:
        raise TooMany(MOST_ROWS)


def rows_up_to(row):
    """All rows from that of noughts up to this one, place by place, ascending."""
    found = [()]
    for most in row:
        found = [ahead + (number,) for ahead in found for number in range(most + 1)]
    return found


def _is_nowhere_above(one, other):
    return all([a <= b for a, b in zip(one, other)])


def _are_not_barred(aheads, left):
    """Whether none of these rows, told by their forms, has a form below 0 with what is left."""
    return all([sum([a * b for a, b in zip(ahead, left)]) >= 0 for ahead in aheads])


def all_under(net, row):
    """For each row up to this one the list of all rows under it, ascending."""
    found = {}
    forms = {}
    for goal in rows_up_to(row):
        forms[goal] = form_ahead(net, goal)
        under = []
        for one in rows_up_to(goal):
            left = [a - b for a, b in zip(goal, one)]
            # Each row is under itself: what is left is the row of noughts.
            if one == goal or _are_not_barred([forms[some] for some in found[one]], left):
                under.append(one)
        found[goal] = under
    return found


def is_under(net, one, other):
    """Whether the row one is under the other."""
    check_net(net)
    check_small_row(net, one)
    check_small_row(net, other)
    check_few_rows([max(a, b) for a, b in zip(one, other)])
    if not _is_nowhere_above(one, other):
        return False
    left = [b - a for a, b in zip(one, other)]
    return _are_not_barred([form_ahead(net, some) for some in all_under(net, one)[one]], left)


def under_rows(net, row):
    """All rows under this one, ascending."""
    check_net(net)
    check_small_row(net, row)
    check_few_rows(row)
    return all_under(net, row)[row]


def general_joinings(net, one, other):
    """How many joinings there are at least of webs of the one row to webs of the other."""
    check_net(net)
    check_small_row(net, one)
    check_small_row(net, other)
    check_few_rows([max(a, b) for a, b in zip(one, other)])
    return max([0 - pair_value(net, some, other) for some in all_under(net, one)[one]])


def general_maps(net, one, other):
    """How many maps there are at least from webs of the one row to webs of the other."""
    return general_joinings(net, one, other) + pair_value(net, one, other)
