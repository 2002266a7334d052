"""What columns span: Tables of independent tidy columns, one for each such space."""

from boughwebs.solving import kernel, leading_of, left_over, reduced, sparse
from boughwebs.tables import Table, across, columns_of, times


def _of_leading(prime, tall, leading):
    """The Table whose columns are these lines in reduced form."""
    firsts = sorted(leading)
    lines = [[leading[first].get(k, 0) for first in firsts] for k in range(tall)]
    return Table(prime, tall, len(firsts), lines)


def span_of(prime, tall, tables):
    """The tidy columns that span what the columns of all these Tables, so tall, span together."""
    lines = [column for table in tables for column in columns_of(table)]
    return _of_leading(prime, tall, reduced(prime, sparse(lines)))


def tidied(table):
    """The tidy columns that span what the columns of the Table span."""
    return _of_leading(table.prime, table.tall, leading_of(across(table)))


def is_tidy(table):
    """Whether the columns are independent and tidy."""
    return tidied(table) == table


def is_in_span(span, table):
    """Whether the tidy columns span the columns of the Table, too."""
    pivots = pivots_of(span)
    if len(pivots) == span.tall:
        return True
    known = Table(span.prime, len(pivots), table.wide, [table.lines[k] for k in pivots])
    return times(span, known) == table


def pivots_of(span):
    """For each of these tidy columns the line of its leading 1, in which all others have 0."""
    found = []
    for k, line in enumerate(span.lines):
        if len(found) < span.wide and line[len(found)]:
            found.append(k)
    return found


def fetched_span(table, span):
    """The tidy columns of all that the Table leads into what these columns span."""
    return tidied(kernel(times(left_over(span), table)))


def common_span(one, other):
    """The tidy columns of what both span."""
    return tidied(times(one, kernel(times(left_over(other), one))))
