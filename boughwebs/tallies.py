"""Tallies: numbers for all primes at once, as tuples of the numbers that stand at the powers of x."""

from boughwebs.checks import is_list, is_number, is_number_to
from boughwebs.errors import BadNumber, BadTally

MOST_ITEMS = 2000
GREATEST_NUMBER = 1000000
GREATEST_SIZE = 12


def is_tally(thing):
    """Whether thing, which may be anything, is a tuple of at most 2000 numbers, the last one not 0."""
    if not isinstance(thing, tuple) or len(thing) > MOST_ITEMS:
        return False
    return all([is_number(number) for number in thing]) and thing[-1:] != (0,)


def _check_tally(thing):
    if not is_tally(thing):
        raise BadTally("at most 2000 numbers are wanted, the last one not 0")


def _check_tallies(thing):
    if not is_list(thing) or not all([is_tally(tally) for tally in thing]):
        raise BadTally("a list of tallies is wanted")


def trimmed(numbers):
    """The tuple of the numbers up to the last one that is not 0."""
    many = len(numbers)
    while many and not numbers[many - 1]:
        many -= 1
    return tuple(numbers[:many])


def value_at(tally, number):
    """The sum of the items times the powers of the number."""
    found = 0
    for item in reversed(tally):
        found = found * number + item
    return found


def tally_at(tally, number):
    """The sum of item k times the number to the power of k."""
    _check_tally(tally)
    if not is_number(number) or not 0 - GREATEST_NUMBER <= number <= GREATEST_NUMBER:
        raise BadNumber("number")
    return value_at(tally, number)


def plus_tally(one, other, many):
    """One and many times other."""
    wide = max(len(one), len(other))
    first = list(one) + [0] * (wide - len(one))
    second = list(other) + [0] * (wide - len(other))
    return trimmed([a + many * b for a, b in zip(first, second)])


def tally_sum(tallies):
    """The sum of all; () for none."""
    _check_tallies(tallies)
    found = ()
    for tally in tallies:
        found = plus_tally(found, tally, 1)
    return found


def _product(one, other):
    """The product of two tallies that are not ()."""
    found = [0] * (len(one) + len(other) - 1)
    for at, number in enumerate(one):
        if number:
            for k, more in enumerate(other, at):
                found[k] += number * more
    return tuple(found)


def tally_product(tallies):
    """The product of all; (1,) for none."""
    _check_tallies(tallies)
    if not all([len(tally) > 0 for tally in tallies]):
        return ()
    if 1 + sum([len(tally) - 1 for tally in tallies]) > MOST_ITEMS:
        raise BadTally("the product has more than 2000 numbers")
    found = (1,)
    for tally in tallies:
        found = _product(found, tally)
    return found


def tally_less(one, other):
    """One less other."""
    _check_tally(one)
    _check_tally(other)
    return plus_tally(one, other, -1)


def tally_through(one, other):
    """The tally whose product with other, which is not (), is one; None if there is none."""
    _check_tally(one)
    _check_tally(other)
    if not other:
        raise BadTally("there is nothing through ()")
    rest = list(one)
    wide = len(other) - 1
    found = [0] * max(0, len(one) - wide)
    for at in range(len(found) - 1, -1, -1):
        number = rest[at + wide]
        if number:
            # Whole times the last number, or there is no such tally.
            found[at] = number // other[-1]
            if found[at] * other[-1] != number:
                return None
            for k, less in enumerate(other, at):
                rest[k] -= found[at] * less
    return None if any(rest) else trimmed(found)


def with_factor(numbers, power):
    """The numbers of the product with x to this power less 1."""
    found = [0] * power + list(numbers)
    return [a - b for a, b in zip(found, list(numbers) + [0] * power)]


def without_factor(numbers, power):
    """The numbers of what is left of a product that has the factor x to this power less 1."""
    found = [0 - number for number in numbers[:len(numbers) - power]]
    for k in range(power, len(found)):
        found[k] += found[k - power]
    return found


def tally_of_factors(power, above, below):
    """X to a power, times the product of all x to the powers above less 1, through those to the powers below."""
    left = list(above)
    found = [1]
    rest = []
    for less in below:
        if less in left:
            left.remove(less)
        else:
            rest.append(less)
    for more in left:
        found = with_factor(found, more)
    for less in rest:
        found = without_factor(found, less)
    return tuple([0] * power + found)


def _check_size(thing, part):
    if not is_number_to(thing, GREATEST_SIZE):
        raise BadNumber(part)


def whole_tally(size):
    """How many square tables of this size have an inverse: count_whole at each prime."""
    _check_size(size, "size")
    return tally_of_factors(size * (size - 1) // 2, list(range(1, size + 1)), [])


def choices_tally(size, part):
    """How many spaces of the size part a room of this size has."""
    _check_size(size, "size")
    _check_size(part, "part")
    if part > size:
        return ()
    return tally_of_factors(0, list(range(size - part + 1, size + 1)), list(range(1, part + 1)))
