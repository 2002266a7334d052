"""The reduced form of tables, and what it tells: ranks, kernels, inverses, solutions."""

from boughwebs.errors import BadTable
from boughwebs.tables import Table, across, check_prime, check_size, check_table, plain


def inverse_of(number, prime):
    """The number that makes 1 with this one, which is not 0 modulo the prime."""
    rest, ahead = number % prime, prime
    found, other = 1, 0
    while rest != 1:
        many = ahead // rest
        rest, ahead = ahead - many * rest, rest
        found, other = other - many * found, found
    return found % prime


def _lessen(prime, row, many, other):
    """Takes many times other from row; both are dicts without noughts, many is not 0."""
    for column, number in other.items():
        rest = (row.get(column, 0) - many * number) % prime
        if rest:
            row[column] = rest
        else:
            del row[column]


def reduced_rows(prime, rows):
    """The lines of the reduced form that are not 0, and the indexes of the rows that add nothing to it.

    The lines come as a dict from their leading columns, the rows are those that are sums of
    multiples of the ones ahead of them. Rows and lines are dicts from columns to the numbers there
    that are not 0, so that tables of equations, in which nearly all is 0, stay small.
    """
    leading = {}
    spare = []
    for at, given in enumerate(rows):
        row = {column: given[column] for column in given}
        known = [column for column in given if column in leading]
        for column in known:
            _lessen(prime, row, row[column], leading[column])
        if not row:
            spare.append(at)
            continue
        first = min(list(row))
        many = inverse_of(row[first], prime)
        row = {column: row[column] * many % prime for column in row}
        for other in list(leading.values()):
            if first in other:
                _lessen(prime, other, other[first], row)
        leading[first] = row
    return (leading, spare)


def reduced(prime, rows):
    """The lines that reduced_rows tells."""
    leading, _ = reduced_rows(prime, rows)
    return leading


def kernel_columns(wide, leading):
    """The columns that lines in reduced form lead to 0: one for each column without a leading 1."""
    free = [column for column in range(wide) if column not in leading]
    found = []
    for at in free:
        column = [0] * wide
        column[at] = 1
        for first, row in leading.items():
            column[first] = 0 - row.get(at, 0)
        found.append(column)
    return found


def sparse(lines):
    """The lines as dicts from columns to the numbers there that are not 0."""
    return [{k: number for k, number in enumerate(line) if number} for line in lines]


def leading_of(one):
    """The lines of a Table's reduced form as `reduced` tells them."""
    return reduced(one.prime, sparse(one.lines))


def tidy(one):
    """The reduced form by lines."""
    check_table(one)
    leading = leading_of(one)
    lines = [[leading[first].get(k, 0) for k in range(one.wide)] for first in sorted(leading)]
    lines = lines + [[0] * one.wide] * (one.tall - len(lines))
    return Table(one.prime, one.tall, one.wide, lines)


def rank(one):
    """How many lines of the reduced form are not 0."""
    check_table(one)
    return len(leading_of(one))


def kernel(one):
    """The Table whose columns are what one leads to 0."""
    check_table(one)
    columns = kernel_columns(one.wide, leading_of(one))
    return across(Table(one.prime, len(columns), one.wide, columns))


def left_over(one):
    """The Table that leads all that one gives to 0."""
    return across(kernel(across(one)))


def solved(one, goal):
    """The Table x with times(one, x) equal to goal, 0 where it is free; None if there is none."""
    check_table(one)
    check_table(goal)
    if one.prime != goal.prime or one.tall != goal.tall:
        raise BadTable("these do not have one prime and equally many lines")
    lines = [line + other for line, other in zip(one.lines, goal.lines)]
    leading = reduced(one.prime, sparse(lines))
    if any([first >= one.wide for first in leading]):
        return None
    found = [[0] * goal.wide for _ in range(one.wide)]
    for first, row in leading.items():
        found[first] = [row.get(one.wide + k, 0) for k in range(goal.wide)]
    return Table(one.prime, one.wide, goal.wide, found)


def solved_across(one, goal):
    """The Table x with times(x, one) equal to goal, likewise."""
    found = solved(across(one), across(goal))
    return None if found is None else across(found)


def inverse(one):
    """The Table that makes plain with one; None if there is none."""
    check_table(one)
    if one.tall != one.wide:
        return None
    return solved(one, plain(one.prime, one.tall))


def is_whole(one):
    """Whether one is square and has an inverse."""
    check_table(one)
    return one.tall == one.wide and rank(one) == one.tall


def leading_columns(one):
    """The Table of the columns of one that have a leading 1 in its reduced form."""
    leading = leading_of(one)
    columns = sorted(leading)
    lines = [[line[k] for k in columns] for line in one.lines]
    return Table(one.prime, one.tall, len(columns), lines)


def solution(prime, wide, rows, goal):
    """So many numbers that make, with each row, goal's number, 0 where they are free; None if there are none.

    Rows are dicts from columns to the numbers there that are not 0.
    """
    lines = []
    for row, number in zip(rows, goal):
        line = {column: row[column] for column in row}
        if number % prime:
            line[wide] = number % prime
        lines.append(line)
    leading = reduced(prime, lines)
    if wide in leading:
        return None
    return [leading[k].get(wide, 0) if k in leading else 0 for k in range(wide)]


def combination(prime, columns, goal):
    """How often each column, a list of numbers, has to be taken to sum up to goal; None if that cannot be."""
    lines = [[column[k] for column in columns] for k in range(len(goal))]
    return solution(prime, len(columns), sparse(lines), goal)


def to_power(number, many):
    """The number, so many times multiplied."""
    found = 1
    square = number
    while many:
        if many & 1:
            found = found * square
        square = square * square
        many = many // 2
    return found


def count_whole_over(number, size):
    """How many square tables of this size over a field of so many numbers have an inverse.

    Each line lies outside of what those above span.
    """
    powers = [1]
    for _ in range(size):
        powers.append(powers[-1] * number)
    found = 1
    for power in powers[:size]:
        found = found * (powers[size] - power)
    return found


def count_whole(prime, size):
    """How many Tables of this size have an inverse."""
    check_prime(prime)
    check_size(size, "size")
    return count_whole_over(prime, size)
