"""Tables of numbers of a prime field, and what is made of them line by line."""

from boughwebs.checks import is_list, is_number, is_number_to
from boughwebs.errors import BadNumber, BadPrime, BadTable

PRIMES = (2, 3, 5, 7, 11, 13, 17, 19, 23, 29, 31, 37, 41, 43, 47, 53, 59, 61, 67, 71, 73, 79, 83, 89, 97)
GREATEST = 60


def is_prime(thing):
    """Whether thing is a prime from 2 to 97."""
    return is_number(thing) and thing in PRIMES


def check_prime(prime):
    """BadPrime unless prime is a prime from 2 to 97."""
    if not is_prime(prime):
        raise BadPrime("a prime from 2 to 97 is wanted")


def _are_lines(thing, tall, wide):
    if not is_list(thing) or len(thing) != tall:
        return False
    for line in thing:
        if not is_list(line) or len(line) != wide:
            return False
        for number in line:
            # As is_number tells, but Tables are made so often that the call would be felt.
            if not isinstance(number, int) or number is True or number is False:
                return False
    return True


class Table:
    """A table of numbers from 0 to prime - 1: it leads columns of wide numbers to columns of tall."""

    def __init__(self, prime, tall, wide, lines):
        check_prime(prime)
        if not is_number_to(tall, GREATEST) or not is_number_to(wide, GREATEST):
            raise BadTable("tall and wide are numbers from 0 to 60")
        if not _are_lines(lines, tall, wide):
            raise BadTable("the lines are not as many, or not as long, as told")
        self.prime = prime
        self.tall = tall
        self.wide = wide
        self.lines = tuple([tuple([number % prime for number in line]) for line in lines])

    def __eq__(self, other):
        return (isinstance(other, Table) and self.prime == other.prime and self.tall == other.tall
                and self.wide == other.wide and self.lines == other.lines)


def check_table(one):
    """BadTable unless one is a Table."""
    if not isinstance(one, Table):
        raise BadTable("a Table is wanted")


def is_sized(thing, prime, tall, wide):
    """Whether thing, which may be anything, is a Table over this prime of these sizes."""
    return isinstance(thing, Table) and thing.prime == prime and thing.tall == tall and thing.wide == wide


def columns_of(one):
    """The columns of a Table, as lists."""
    return [[line[k] for line in one.lines] for k in range(one.wide)]


def times(one, two):
    """What two and then one does."""
    check_table(one)
    check_table(two)
    if one.prime != two.prime or one.wide != two.tall:
        raise BadTable("these cannot be done one behind the other")
    columns = columns_of(two)
    lines = [[sum([a * b for a, b in zip(line, column)]) for column in columns] for line in one.lines]
    return Table(one.prime, one.tall, two.wide, lines)


def _check_alike(one, two):
    check_table(one)
    check_table(two)
    if one.prime != two.prime or one.tall != two.tall or one.wide != two.wide:
        raise BadTable("sizes or primes are not the same")


def plus(one, two):
    """The sum, number by number."""
    _check_alike(one, two)
    lines = [[a + b for a, b in zip(first, second)] for first, second in zip(one.lines, two.lines)]
    return Table(one.prime, one.tall, one.wide, lines)


def minus(one, two):
    """One less two, number by number."""
    _check_alike(one, two)
    lines = [[a - b for a, b in zip(first, second)] for first, second in zip(one.lines, two.lines)]
    return Table(one.prime, one.tall, one.wide, lines)


def scaled(one, number):
    """The Table so many times."""
    check_table(one)
    if not is_number(number):
        raise BadNumber("number")
    return Table(one.prime, one.tall, one.wide, [[number * a for a in line] for line in one.lines])


def check_size(thing, part):
    """BadNumber(part) unless thing is a number from 0 to 60."""
    if not is_number_to(thing, GREATEST):
        raise BadNumber(part)


def plain(prime, size):
    """The square Table with 1 on the diagonal."""
    check_prime(prime)
    check_size(size, "size")
    lines = [[1 if k == at else 0 for k in range(size)] for at in range(size)]
    return Table(prime, size, size, lines)


def empty(prime, tall, wide):
    """The Table with 0 all over."""
    check_prime(prime)
    check_size(tall, "tall")
    check_size(wide, "wide")
    return Table(prime, tall, wide, [[0] * wide] * tall)


def across(one):
    """Lines and columns exchanged."""
    check_table(one)
    return Table(one.prime, one.wide, one.tall, columns_of(one))


def _check_tables(tables):
    if not is_list(tables) or len(tables) == 0:
        raise BadTable("a list of one or more Tables is wanted")
    for table in tables:
        check_table(table)
    if not all([table.prime == tables[0].prime for table in tables]):
        raise BadTable("the primes are not the same")


def beside(tables):
    """Tables beside one another, from left to right."""
    _check_tables(tables)
    first = tables[0]
    if not all([table.tall == first.tall for table in tables]):
        raise BadTable("these do not have equally many lines")
    wide = sum([table.wide for table in tables])
    lines = [[number for table in tables for number in table.lines[k]] for k in range(first.tall)]
    return Table(first.prime, first.tall, wide, lines)


def over(tables):
    """Tables over one another, from above."""
    _check_tables(tables)
    first = tables[0]
    if not all([table.wide == first.wide for table in tables]):
        raise BadTable("these do not have equally many columns")
    lines = [line for table in tables for line in table.lines]
    return Table(first.prime, len(lines), first.wide, lines)


def corner(tables):
    """Tables along the diagonal, 0 elsewhere."""
    _check_tables(tables)
    wide = sum([table.wide for table in tables])
    lines = []
    ahead = 0
    for table in tables:
        behind = wide - ahead - table.wide
        lines = lines + [[0] * ahead + list(line) + [0] * behind for line in table.lines]
        ahead += table.wide
    return Table(tables[0].prime, len(lines), wide, lines)
