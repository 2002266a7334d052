"""By what sums of multiples of columns of whole numbers can be divided without being such sums any more.

Lines are dicts from columns to the numbers there that are not 0. They may be taken from one another,
and so may columns: both change neither the sums nor what can be divided.
"""

from math import gcd, lcm


def _taken_out(rows, at, column):
    """The rows other than this one, with 0 in the column, where this one has 1 or -1."""
    own = rows[at]
    found = []
    for k, given in enumerate(rows):
        if k != at:
            row = given
            if column in row:
                many = row[column] * own[column]
                row = {other: row.get(other, 0) - many * own.get(other, 0) for other in list(row) + list(own)}
                row = {other: row[other] for other in row if row[other]}
            if row:
                found.append(row)
    return found


def _without_units(rows):
    """What is left of the rows when each number 1 or -1 has taken out its row and its column."""
    left = [row for row in rows if row]
    while True:
        told = [(len(row), at, k) for at, row in enumerate(left) for k in row if row[k] in (1, -1)]
        if not told:
            return left
        _, at, column = min(told)
        left = _taken_out(left, at, column)


def _common_divisor(rows):
    found = 0
    for row in rows:
        for number in row.values():
            found = gcd(found, number)
    return found


def _minor(rows):
    """A determinant, not 0, of as many lines and columns of the rows as there can be."""
    left = [list(row) for row in rows]
    found = 1
    while left and left[0]:
        spots = [(abs(row[k]), at, k) for at, row in enumerate(left) for k in range(len(row)) if row[k]]
        if not spots:
            return found
        _, at, k = min(spots)
        own = left[at]
        after = []
        for other, row in enumerate(left):
            if other != at:
                full = [(own[k] * a - row[k] * b) // found for a, b in zip(row, own)]
                after.append(full[:k] + full[k + 1:])
        left, found = after, own[k]
    return found


def _shares(one, other):
    """The greatest common divisor of two numbers, and how often both make it; once the one alone if it divides."""
    if other % one == 0:
        return (one, 1, 0)
    rest, ahead = other, one
    found, more = 0, 1
    while rest:
        many = ahead // rest
        ahead, rest = rest, ahead - many * rest
        more, found = found, more - many * found
    return (ahead, more, (ahead - more * one) // other)


def _cleared(rows, modulus):
    """The rows with 0 in the first column below the first row, by whole steps of rows, modulo a number."""
    first = rows[0]
    found = []
    for row in rows[1:]:
        if row[0]:
            common, one, other = _shares(first[0], row[0])
            many, less = first[0] // common, row[0] // common
            row = [(many * b - less * a) % modulus for a, b in zip(first, row)]
            if other:
                first = [(one * a + other * b) % modulus for a, b in zip(first, rows[len(found) + 1])]
        found.append(row)
    return [first] + found


def _exchanged(rows):
    return [list(column) for column in zip(*rows)]


def _least_first(rows, modulus):
    """The rows with the number that has the least divisor in common with the modulus at the first place."""
    spots = [(gcd(row[k], modulus), at, k) for at, row in enumerate(rows) for k in range(len(row)) if row[k]]
    if not spots:
        return []
    _, at, k = min(spots)
    found = [[row[k]] + row[:k] + row[k + 1:] for row in rows]
    return [found[at]] + found[:at] + found[at + 1:]


def _diagonal(rows, modulus):
    """The numbers along the diagonal that steps of rows and columns make of the rows, modulo a number."""
    found = []
    left = _least_first(rows, modulus) if rows else []
    while left:
        left = _cleared(left, modulus)
        while any(left[0][1:]):
            left = _cleared(_exchanged(_cleared(_exchanged(left), modulus)), modulus)
        found.append(gcd(left[0][0], modulus))
        rest = [row[1:] for row in left[1:]]
        left = _least_first(rest, modulus) if rest and rest[0] else []
    return found


def _greatest(rows):
    """The greatest divisor of rows, as lists, that are not all 0.

    Twice a determinant of all that are independent is a modulus that tells it from the rest, which is 0.
    """
    modulus = 2 * abs(_minor(rows))
    numbers = _diagonal([[number % modulus for number in row] for row in rows], modulus)
    for at in range(len(numbers)):
        for k in range(at + 1, len(numbers)):
            one, other = numbers[at], numbers[k]
            numbers[at], numbers[k] = gcd(one, other), lcm(one, other)
    return max([number for number in numbers if number != modulus])


def greatest_divisor(rows):
    """The least number from 1 on for which this holds: each column of which some multiple is a sum of multiples of
    the columns of the rows is such a sum if it is taken so many times.
    """
    found = 1
    left = _without_units(rows)
    while left:
        common = _common_divisor(left)
        if common == 1:
            columns = sorted({k: True for row in left for k in row})
            return found * _greatest([[row.get(k, 0) for k in columns] for row in left])
        found = found * common
        left = _without_units([{k: row[k] // common for k in row} for row in left])
    return found
