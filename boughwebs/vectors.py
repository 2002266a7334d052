"""Lists of numbers over a prime field, as columns or lines, without the care that a Table takes of each number.

A *space* is told by a list of vectors, all of one length, that span it.
"""

from boughwebs.solving import inverse_of


def reduced_vectors(prime, vectors):
    """The vectors of the reduced form that are not 0, by the place of their leading 1."""
    found = {}
    for given in vectors:
        vector = lessened(prime, found, given)
        first = 0
        for number in vector:
            if number:
                break
            first += 1
        if first == len(vector):
            continue
        many = vector[first]
        if many != 1:
            many = inverse_of(many, prime)
            vector = [number * many % prime for number in vector]
        for place, other in list(found.items()):
            many = other[first]
            if many:
                found[place] = [(a - many * b) % prime for a, b in zip(other, vector)]
        found[first] = vector
    return found


def lessened(prime, leading, vector):
    """The vector with 0 at all leading places: less what reduced vectors make of its numbers there."""
    for place, other in leading.items():
        # The others have 0 at this place, so that the number there is the one that was given.
        many = vector[place]
        if many:
            vector = [(a - many * b) % prime for a, b in zip(vector, other)]
    return vector


def span_of_vectors(prime, vectors):
    """Independent vectors that span what these do, in reduced form."""
    leading = reduced_vectors(prime, vectors)
    return [leading[place] for place in sorted(leading)]


def kernel_of_columns(prime, columns):
    """What sums of multiples of the columns come to 0, and the places of the columns that depend on those ahead.

    There is one such sum for each of these: with 1 there, and 0 at the others of them.
    """
    wide = len(columns)
    leading = reduced_vectors(prime, [list(line) for line in zip(*columns)])
    free = [k for k in range(wide) if k not in leading]
    found = []
    for at in free:
        column = [0] * wide
        column[at] = 1
        for first, line in leading.items():
            if line[at]:
                column[first] = prime - line[at]
        found.append(column)
    return (found, free)


def combined(prime, vectors, many, wide):
    """The sum of the vectors, of this length, each so many times."""
    found = [0] * wide
    for vector, number in zip(vectors, many):
        if number:
            found = [a + number * b for a, b in zip(found, vector)]
    return [number % prime for number in found]


def common_of_spaces(prime, one, other, wide):
    """What two spaces have in common, each told by independent vectors."""
    found, _ = kernel_of_columns(prime, one + other)
    return [combined(prime, one, many, wide) for many in found]


def independent_of(prime, base, vectors):
    """The places of those vectors that are no sums of multiples of the base and of those ahead of them."""
    leading = reduced_vectors(prime, base)
    found = []
    for at, vector in enumerate(vectors):
        rest = lessened(prime, leading, vector)
        if any(rest):
            found.append(at)
            leading = reduced_vectors(prime, list(leading.values()) + [rest])
    return found


def units(size):
    """All vectors of this length with 1 at one place and 0 elsewhere."""
    return [[1 if k == at else 0 for k in range(size)] for at in range(size)]


def exchanged(vectors, wide):
    """Vectors of the numbers at one place each, of which there are so many."""
    return [[vector[k] for vector in vectors] for k in range(wide)]


def inverse_columns(prime, columns):
    """The columns of the inverse of the square table of these columns, which are independent."""
    size = len(columns)
    lines = [line + unit for line, unit in zip(exchanged(columns, size), units(size))]
    leading = reduced_vectors(prime, lines)
    return exchanged([leading[k][size:] for k in range(size)], size)
