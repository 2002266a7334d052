"""Tables of whole numbers, as lists of lists: products, determinants, inverses."""

from boughwebs.checks import is_list, is_number
from boughwebs.errors import BadTable

GREATEST_SIZE = 12
GREATEST_NUMBER = 1000000000


def are_whole_lines(thing, tall, wide):
    """Whether thing, which may be anything, is a list of so many lists of so many numbers each."""
    if not is_list(thing) or len(thing) != tall:
        return False
    return all([is_list(line) and len(line) == wide and all([is_number(number) for number in line])
                for line in thing])


def are_bounded(lines):
    """Whether no number of the lines is beyond the bound of whole tables."""
    return all([0 - GREATEST_NUMBER <= number <= GREATEST_NUMBER for line in lines for number in line])


def is_whole_table(thing, tall, wide):
    """Whether thing, which may be anything, is a whole table of these sizes."""
    return are_whole_lines(thing, tall, wide) and are_bounded(thing)


def as_tuples(lines):
    """The lines as tuples."""
    return tuple([tuple(line) for line in lines])


def whole_times(one, two, wide):
    """The product of a table and one with so many columns."""
    columns = [[line[k] for line in two] for k in range(wide)]
    return [[sum([a * b for a, b in zip(line, column)]) for column in columns] for line in one]


def _stepped(lines, at, ahead):
    """The lines with 0 in the column below and above this line; all numbers stay whole, as they are determinants.

    Ahead is the number that stood on the diagonal one step before, or 1.
    """
    own = lines[at]
    return [line if k == at else [(own[at] * a - line[at] * b) // ahead for a, b in zip(line, own)]
            for k, line in enumerate(lines)]


def determinant_of(lines):
    """What determinant tells, of what surely is square."""
    left = [list(line) for line in lines]
    sign = ahead = 1
    for at in range(len(left)):
        below = [k for k in range(at, len(left)) if left[k][at]]
        if not below:
            return 0
        if below[0] != at:
            left[at], left[below[0]] = left[below[0]], left[at]
            sign = 0 - sign
        left, ahead = _stepped(left, at, ahead), left[at][at]
    return sign * ahead


def determinant(lines):
    """The determinant of a square table of whole numbers; 1 for one without lines."""
    if not is_list(lines) or len(lines) > GREATEST_SIZE or not are_whole_lines(lines, len(lines), len(lines)):
        raise BadTable("at most 12 lists of numbers are wanted, each as long as there are lists")
    return determinant_of(lines)


def whole_inverse(lines):
    """The inverse of a square table of whole numbers that has the determinant 1 or -1."""
    size = len(lines)
    left = [list(line) + [1 if k == at else 0 for k in range(size)] for at, line in enumerate(lines)]
    ahead = 1
    for at in range(size):
        first = [k for k in range(at, size) if left[k][at]][0]
        left[at], left[first] = left[first], left[at]
        left, ahead = _stepped(left, at, ahead), left[at][at]
    # What stands on the diagonal now is 1 or -1, the same all along it.
    return [[ahead * number for number in line[size:]] for line in left]
