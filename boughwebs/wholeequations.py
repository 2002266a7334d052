"""Equations in whole numbers and what they lead to 0, as few as over a prime field.

Lines are dicts from columns to the numbers there that are not 0.
"""

from math import gcd, lcm


def _primitive(row):
    """The row without a common divisor of its numbers."""
    common = 0
    for number in row.values():
        common = gcd(common, number)
        if common == 1:
            return row
    return {column: row[column] // common for column in row}


def _without(row, column, other):
    """So many times the row that, less a multiple of the other, it has 0 in the column; no common divisor."""
    own, many = other[column], row[column]
    common = gcd(own, many)
    own, many = own // common, many // common
    found = {k: own * row[k] for k in row}
    for k, number in other.items():
        rest = found.get(k, 0) - many * number
        if rest:
            found[k] = rest
        else:
            del found[k]
    return _primitive(found)


def _whole_reduced(prime, rows):
    """Lines that tell the same as the rows, by a column each: others have 0 there, and they no multiple of prime."""
    leading = {}
    for given in rows:
        row = given
        for column in [k for k in given if k in leading]:
            row = _without(row, column, leading[column])
        if row:
            row = _primitive(row)
            _, first = min([(abs(row[k]), k) for k in row if row[k] % prime])
            for column, other in list(leading.items()):
                if first in other:
                    leading[column] = _without(other, first, row)
            leading[first] = row
    return leading


def whole_kernel(prime, wide, rows):
    """Lists of so many whole numbers that the rows lead to 0, one for each column that is left free.

    They are independent over the field of the prime, too.
    """
    leading = _whole_reduced(prime, rows)
    found = []
    for free in [k for k in range(wide) if k not in leading]:
        known = {column: row for column, row in leading.items() if free in row}
        unit = 1
        for column, row in known.items():
            unit = lcm(unit, abs(row[column]) // gcd(row[column], row[free]))
        numbers = [0] * wide
        numbers[free] = unit
        for column, row in known.items():
            numbers[column] = 0 - row[free] * unit // row[column]
        found.append(numbers)
    return found
