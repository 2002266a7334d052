"""A square Table as a sum of companions: chains of columns, each led on into the next one."""

from boughwebs.polys import parts_of
from boughwebs.solving import inverse_of, kernel, reduced_rows, sparse
from boughwebs.tables import columns_of, plain, plus, scaled, times


def new_groups(prime, base, groups):
    """The indexes of the groups of columns whose first one is no sum of multiples of all columns ahead."""
    starts = []
    columns = list(base)
    for group in groups:
        starts.append(len(columns))
        columns = columns + group
    _, spare = reduced_rows(prime, sparse(columns))
    known = {at: True for at in spare}
    return [k for k, at in enumerate(starts) if at not in known]


def led_along(table, column, many):
    """The column and what the Table makes of it, again and again, so many in all."""
    found = [list(column)]
    while len(found) < many:
        found.append([sum([a * b for a, b in zip(line, found[-1])]) % table.prime for line in table.lines])
    return found


def _clear_column(prime, lines, at):
    """Makes all numbers in the column ahead of this one 0 below its line, with the same changes of coordinates.

    The lines are changed in place.
    """
    below = [k for k in range(at, len(lines)) if lines[k][at - 1]]
    if not below:
        return
    first = below[0]
    lines[at], lines[first] = lines[first], lines[at]
    for line in lines:
        line[at], line[first] = line[first], line[at]
    back = inverse_of(lines[at][at - 1], prime)
    for k in range(at + 1, len(lines)):
        many = lines[k][at - 1] * back % prime
        if many:
            lines[k] = [(a - many * b) % prime for a, b in zip(lines[k], lines[at])]
            for line in lines:
                line[at] = (line[at] + many * line[k]) % prime


def _own_poly(table):
    """The polynomial of plain times x less the Table, as its determinant tells it."""
    prime = table.prime
    lines = [list(line) for line in table.lines]
    for at in range(1, table.tall - 1):
        _clear_column(prime, lines, at)
    found = [[1]]
    for size in range(1, table.tall + 1):
        last = found[-1]
        more = [0] + last
        many = 1
        for at in range(size - 1, -1, -1):
            # Along a product of numbers close below the diagonal, and one above.
            number = many * lines[at][size - 1] % prime
            for k, less in enumerate(found[at]):
                more[k] = (more[k] - number * less) % prime
            many = many * (lines[at][at - 1] if at else 0) % prime
        found.append(more)
    return tuple(found[-1])


def _table_in_poly(table, poly):
    """The Table put into the polynomial."""
    unit = plain(table.prime, table.tall)
    found = scaled(unit, poly[-1])
    for number in reversed(poly[:-1]):
        found = plus(times(found, table), scaled(unit, number))
    return found


def _kernels(table, size):
    """What the Table leads to 0 if it is done 0, 1, 2 times and so on, up to that of so many columns."""
    found = [kernel(plain(table.prime, table.tall))]
    power = table
    while found[-1].wide < size:
        found.append(kernel(power))
        power = times(power, table)
    return found


def _chains_of_part(table, poly, often):
    """The triples (poly, e, chain) of the parts whose companions are of powers of this bare polynomial."""
    degree = len(poly) - 1
    step = _table_in_poly(table, poly)
    kernels = _kernels(step, degree * often)
    kernels.append(kernels[-1])
    found = []
    for e in range(len(kernels) - 2, 0, -1):
        less, own, more = kernels[e - 1], kernels[e], kernels[e + 1]
        if 2 * own.wide > less.wide + more.wide:
            base = columns_of(less) + (columns_of(times(step, more)) if e < len(kernels) - 2 else [])
            groups = [led_along(table, column, degree) for column in columns_of(own)]
            for k in new_groups(table.prime, base, groups):
                found.append((poly, e, led_along(table, groups[k][0], degree * e)))
    return found


def cyclic_parts(table):
    """The triples (bare polynomial, e, chain) of the parts of a square Table.

    Each column of a chain is led into the next one, the last one as the companion of the polynomial
    to the power of e tells; all columns together make a whole Table.
    """
    found = []
    for poly, often in parts_of(table.prime, _own_poly(table)):
        found = found + _chains_of_part(table, poly, often)
    return found
