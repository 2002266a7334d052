"""A square table as a sum of companions: chains of columns, each led on into the next one.

Tables are told by their columns, as lists.
"""

from boughwebs.polys import divided_by, parts_of, power_of
from boughwebs.solving import inverse_of
from boughwebs.vectors import combined, exchanged, kernel_of_columns, lessened, reduced_vectors, span_of_vectors, units


def led_along(prime, table, column, many):
    """The column and what the table makes of it, again and again, so many in all."""
    found = [column]
    while len(found) < many:
        found.append(combined(prime, table, found[-1], len(column)))
    return found


def _clear_column(prime, lines, at):
    """Makes all numbers in the column ahead of this one 0 below its line, with the same changes of coordinates.

    The lines are changed in place.
    """
    below = [k for k in range(at, len(lines)) if lines[k][at - 1]]
    if not below:
        return
    first = below[0]
    lines[at], lines[first] = lines[first], lines[at]
    for line in lines:
        line[at], line[first] = line[first], line[at]
    back = inverse_of(lines[at][at - 1], prime)
    for k in range(at + 1, len(lines)):
        many = lines[k][at - 1] * back % prime
        if many:
            lines[k] = [(a - many * b) % prime for a, b in zip(lines[k], lines[at])]
            for line in lines:
                line[at] = (line[at] + many * line[k]) % prime


def _own_poly(prime, table):
    """The polynomial of plain times x less the table, as its determinant tells it."""
    lines = exchanged(table, len(table))
    for at in range(1, len(lines) - 1):
        _clear_column(prime, lines, at)
    found = [[1]]
    for size in range(1, len(lines) + 1):
        last = found[-1]
        more = [0] + last
        many = 1
        for at in range(size - 1, -1, -1):
            # Along a product of numbers close below the diagonal, and one above.
            number = many * lines[at][size - 1] % prime
            if number:
                for k, less in enumerate(found[at]):
                    more[k] = (more[k] - number * less) % prime
            many = many * (lines[at][at - 1] if at else 0) % prime
        found.append(more)
    return tuple(found[-1])


def _led_by_poly(prime, table, poly, column):
    """What the table, put into the polynomial, makes of a column."""
    return combined(prime, led_along(prime, table, column, len(poly)), poly, len(column))


def _lasts(prime, table, poly, often, column):
    """Whether the table in the polynomial, done so often less once, does not lead the column to 0."""
    left = often - 1
    while left and any(column):
        column = _led_by_poly(prime, table, poly, column)
        left -= 1
    return any(column)


def _kernels(prime, step):
    """What the table, done 0, 1, 2 times and so on, leads to 0, up to where that is all."""
    found = [[]]
    power = units(len(step))
    while len(found[-1]) < len(step):
        power = [combined(prime, step, column, len(step)) for column in power]
        found.append(kernel_of_columns(prime, power)[0])
    return found


def _chains_of_part(prime, table, poly):
    """The triples (poly, e, chain) of a table that is a sum of companions of powers of this bare polynomial alone."""
    degree = len(poly) - 1
    size = len(table)
    step = [_led_by_poly(prime, table, poly, column) for column in units(size)]
    kernels = _kernels(prime, step)
    kernels.append(kernels[-1])
    found = []
    for e in range(len(kernels) - 2, 0, -1):
        less, own, more = kernels[e - 1], kernels[e], kernels[e + 1]
        if 2 * len(own) > len(less) + len(more):
            leading = reduced_vectors(prime, less + [combined(prime, step, column, size) for column in more])
            for column in own:
                if any(lessened(prime, leading, column)):
                    chain = led_along(prime, table, column, degree * e)
                    found.append((poly, e, chain))
                    leading = reduced_vectors(prime, list(leading.values()) + chain[:degree])
    return found


def _in_columns(prime, columns, vectors):
    """How often each of the independent columns has to be taken for each of the vectors, which they span."""
    found, _ = kernel_of_columns(prime, columns + vectors)
    return [[(0 - number) % prime for number in many[:len(columns)]] for many in found]


def _way_of(prime, table, ways, at):
    """What the table makes, again and again, of the column with 1 at this place alone; known ways are kept."""
    size = len(table)
    if at not in ways:
        ways[at] = led_along(prime, table, [1 if k == at else 0 for k in range(size)], size)
    return ways[at]


def _parts_of_poly(prime, table, whole, poly, often, ways):
    """The triples of the parts whose companions are of powers of this bare polynomial.

    The table's own polynomial without this one's powers, with the table put into it, leads to 0 all
    else, and spans just these parts. They are one alone if some column lasts so often.
    """
    size = len(table)
    rest, _ = divided_by(prime, whole, power_of(prime, poly, often))
    columns = []
    for at in range(size):
        column = combined(prime, _way_of(prime, table, ways, at), rest, size)
        if _lasts(prime, table, poly, often, column):
            return [(poly, often, led_along(prime, table, column, (len(poly) - 1) * often))]
        columns.append(column)
    basis = span_of_vectors(prime, columns)
    within = _in_columns(prime, basis, [combined(prime, table, column, size) for column in basis])
    return [(some, e, [combined(prime, basis, many, size) for many in chain])
            for some, e, chain in _chains_of_part(prime, within, poly)]


def cyclic_parts(prime, table):
    """The triples (bare polynomial, e, chain) of the parts of a square table.

    Each column of a chain is led into the next one, the last one as the companion of the polynomial
    to the power of e tells; all columns together make a table with an inverse.
    """
    whole = _own_poly(prime, table)
    ways = {}
    found = []
    for poly, often in parts_of(prime, whole):
        found = found + _parts_of_poly(prime, table, whole, poly, often, ways)
    return found
