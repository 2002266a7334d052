"""Joinings: a Table along each arrow, from the room of one web at its tail to that of the other at its head."""

from boughwebs.checks import is_number
from boughwebs.errors import BadJoining, BadMaps, BadNumber, TooMany
from boughwebs.maps import MOST_NUMBERS, are_between, equations, leading_equations, numbers_of_map, offsets
from boughwebs.maps import tables_of_numbers
from boughwebs.solving import reduced
from boughwebs.tables import empty, is_sized, minus, plus, scaled, times
from boughwebs.walks import lines_across
from boughwebs.webs import check_together


def _talls(one, other):
    return [other.sizes[head] for tail, head in one.net.arrows]


def _wides(one, other):
    return [one.sizes[tail] for tail, head in one.net.arrows]


def joins(one, other, thing):
    """Whether thing, which may be anything, is a joining between these webs of one net and prime."""
    if not isinstance(thing, tuple) or len(thing) != len(one.net.arrows):
        return False
    return all([is_sized(table, one.prime, tall, wide)
                for table, tall, wide in zip(thing, _talls(one, other), _wides(one, other))])


def is_joining(one, other, thing):
    """Whether thing, which may be anything, is a joining of one to other."""
    check_together(one, other)
    return joins(one, other, thing)


def check_joining(one, other, joining):
    """BadJoining unless joining is one of one to other, which are of one net and prime."""
    if not joins(one, other, joining):
        raise BadJoining("a Table is wanted for each arrow, from one's room at its tail to other's at its head")


def no_joining(one, other):
    """The joining that is 0 all over."""
    check_together(one, other)
    return tuple([empty(one.prime, tall, wide) for tall, wide in zip(_talls(one, other), _wides(one, other))])


def plus_joining(one, other, first, second):
    """The sum, Table by Table."""
    check_together(one, other)
    check_joining(one, other, first)
    check_joining(one, other, second)
    return tuple([plus(a, b) for a, b in zip(first, second)])


def minus_joining(first, second):
    """The first joining less the second one."""
    return tuple([minus(a, b) for a, b in zip(first, second)])


def scaled_joining(one, other, joining, number):
    """The joining so many times."""
    check_together(one, other)
    check_joining(one, other, joining)
    if not is_number(number):
        raise BadNumber("number")
    return tuple([scaled(table, number) for table in joining])


def twist(one, other, slack):
    """The joining that a slack, a Table for each place from one's room to other's, makes."""
    check_together(one, other)
    if not are_between(one, other, slack):
        raise BadMaps("a Table is wanted for each place, from one's room to other's")
    return tuple([minus(times(slack[head], one.tables[at]), times(other.tables[at], slack[tail]))
                  for at, (tail, head) in enumerate(one.net.arrows)])


def count_numbers(one, other):
    """How many numbers a joining of one to other has."""
    return sum([tall * wide for tall, wide in zip(_talls(one, other), _wides(one, other))])


def check_few(one, other):
    """TooMany(300) if a joining of one to other, or a slack, has more numbers."""
    if max(count_numbers(one, other), offsets(one, other)[-1]) > MOST_NUMBERS:
        raise TooMany(MOST_NUMBERS)


def joining_of_numbers(one, other, numbers):
    """The joining with these numbers, told Table by Table, line by line."""
    return tables_of_numbers(one.prime, _talls(one, other), _wides(one, other), numbers)


def leading_twists(one, other):
    """The reduced form of the twists, as `reduced` tells it: the numbers that lead are the bound ones.

    The equations for maps tell, for each number of a joining, what each number of a slack adds to it.
    """
    return reduced(one.prime, lines_across(equations(one, other), offsets(one, other)[-1]))


def tidy_numbers(prime, leading, numbers):
    """The numbers of a joining less those twists that make all its bound numbers 0."""
    found = list(numbers)
    for first, row in leading.items():
        many = numbers[first]
        if many:
            for k, number in row.items():
                found[k] = (found[k] - many * number) % prime
    return found


def tidy_joining(one, other, joining):
    """The joining that is the same up to slack and has 0 at all bound numbers."""
    check_together(one, other)
    check_joining(one, other, joining)
    check_few(one, other)
    numbers = tidy_numbers(one.prime, leading_twists(one, other), numbers_of_map(joining))
    return joining_of_numbers(one, other, numbers)


def joinings(one, other):
    """The joinings with 1 at one number that is not bound, and 0 elsewhere."""
    check_together(one, other)
    check_few(one, other)
    many = count_numbers(one, other)
    leading = leading_twists(one, other)
    return [joining_of_numbers(one, other, [1 if k == at else 0 for k in range(many)])
            for at in range(many) if at not in leading]


def how_many_joinings(one, other):
    """What count_joinings tells, however many numbers a joining or a slack has."""
    return count_numbers(one, other) - len(leading_equations(one, other))


def count_joinings(one, other):
    """How many joinings `joinings` tells."""
    check_together(one, other)
    check_few(one, other)
    return how_many_joinings(one, other)
