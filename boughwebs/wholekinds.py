"""The kinds of a whole over all primes at once: the one at all but finitely many, and where it is another."""

from math import lcm

from boughwebs.checks import is_number
from boughwebs.divisors import greatest_divisor
from boughwebs.errors import BadPrime, TooMany
from boughwebs.evenwholes import all_leasts, least_whole
from boughwebs.roots import check_good, check_root, highest
from boughwebs.splits import kind_of_loose
from boughwebs.walks import Loose
from boughwebs.wholes import check_whole

GREATEST_PRIME = 1000000
GREATEST_TRIED = 1000
# 2 to one of these powers, less 1, is a prime.
POWERS = (521, 1279, 2203, 4423, 9689)


def is_prime_number(number):
    """Whether the number is a prime; it is tried up to its root."""
    if number < 2:
        return False
    part = 2
    while part * part <= number:
        if number % part == 0:
            return False
        part += 1
    return True


def check_any_prime(prime):
    """BadPrime unless prime is a prime number below 10**6."""
    if not is_number(prime) or prime >= GREATEST_PRIME or not is_prime_number(prime):
        raise BadPrime("a prime below 1000000 is wanted")


def check_good_whole(whole):
    """BadWhole(None) for no Whole, NotGood for one of a net that is not good."""
    check_whole(whole)
    check_good(whole.net)


def kind_over(whole, prime):
    """The kind of the web that the whole is over the field of a prime, however great."""
    tables = []
    for table in whole.tables:
        lines = [{k: number % prime for k, number in enumerate(line)} for line in table]
        tables.append([{k: line[k] for k in line if line[k]} for line in lines])
    return kind_of_loose(whole.net, Loose(prime, list(whole.net.arrows), list(whole.sizes), tables))


def kind_at(whole, prime):
    """The kind of the web that the whole is over the field of this prime."""
    check_good_whole(whole)
    check_any_prime(prime)
    return kind_over(whole, prime)


def great_prime(whole):
    """A prime that divides no bad number of the whole.

    Each root has a least whole of numbers 0 and 1, at most six of them 1 in a column. Tables along are
    made of it by equations, each of at most 12 numbers of the whole and these; there are at most as
    many unknowns as the highest root has places in the rooms. No determinant of so many equations
    is as great as the prime, so none but 0 is divided by it.
    """
    most = max([1] + [abs(number) for table in whole.tables for line in table for number in line])
    many = sum([a * b for a, b in zip(highest(whole.net), whole.sizes)])
    bits = many * (5 * most).bit_length()
    power = min([power for power in POWERS if power > bits])
    return (1 << power) - 1


def general_kind_of_whole(whole):
    """What kind_of_whole tells, of what surely is a Whole on a good net."""
    return kind_over(whole, great_prime(whole))


def kind_of_whole(whole):
    """The kind that the whole is at all primes but finitely many."""
    check_good_whole(whole)
    return general_kind_of_whole(whole)


def equations_along(least, whole):
    """For each number of tables along from the least whole to the whole what makes it: a dict from the numbers of x.

    Tables x are told place by place, line by line.
    """
    starts = [0]
    for size, other in zip(least.sizes, whole.sizes):
        starts.append(starts[-1] + size * other)
    rows = []
    for at, (tail, head) in enumerate(whole.net.arrows):
        for k, line in enumerate(whole.tables[at]):
            for column in range(least.sizes[tail]):
                row = {starts[tail] + j * least.sizes[tail] + column: number for j, number in enumerate(line)}
                for j, other in enumerate(least.tables[at]):
                    row[starts[head] + k * least.sizes[head] + j] = 0 - other[column]
                rows.append({spot: row[spot] for spot in row if row[spot]})
    return rows


def hurdle(whole, root):
    """The least number so many times which all tables along can be made of which any multiple can."""
    check_good_whole(whole)
    check_root(whole.net, root)
    return greatest_divisor(equations_along(least_whole(whole.net, root), whole))


def _bad_number(whole):
    found = 1
    for least in all_leasts(whole.net).values():
        found = lcm(found, greatest_divisor(equations_along(least, whole)))
    return found


def bad_number(whole):
    """The least common multiple of the hurdles of all roots."""
    check_good_whole(whole)
    return _bad_number(whole)


def _primes_of(number):
    """The ascending list of the primes that divide the number."""
    found = []
    for part in range(2, GREATEST_TRIED + 1):
        if number % part == 0:
            found.append(part)
            while number % part == 0:
                number = number // part
    if number > GREATEST_PRIME:
        raise TooMany(GREATEST_PRIME)
    # What is left has no divisor up to the root of this bound.
    return found + [number] if number > 1 else found


def bad_primes(whole):
    """The pairs (prime, kind at it) of all primes that divide the bad number."""
    check_good_whole(whole)
    return [(prime, kind_over(whole, prime)) for prime in _primes_of(_bad_number(whole))]
