"""Polynomials over a prime: tuples of numbers, that of the least power first, the last one not 0."""

from boughwebs.checks import is_number, is_number_to
from boughwebs.errors import BadNumber, BadPoly, TooMany
from boughwebs.solving import inverse_of
from boughwebs.tables import Table, check_prime

MOST_NUMBERS = 61
GREATEST_POWER = 60
GREATEST_DEGREE = 6
MOST_TRIED = 20000


def _are_numbers_of(prime, thing):
    if not isinstance(thing, tuple) or len(thing) > MOST_NUMBERS:
        return False
    return all([is_number_to(number, prime - 1) for number in thing]) and thing[-1:] != (0,)


def is_poly(prime, thing):
    """Whether thing, which may be anything, is a polynomial over the prime."""
    check_prime(prime)
    return _are_numbers_of(prime, thing)


def _check_poly(prime, thing):
    if not _are_numbers_of(prime, thing):
        raise BadPoly("numbers below the prime are wanted, at most 61, the last one not 0")


def _trimmed(numbers):
    """The tuple of the numbers up to the last one that is not 0."""
    many = len(numbers)
    while many and not numbers[many - 1]:
        many -= 1
    return tuple(numbers[:many])


def product_of(prime, one, other):
    """What poly_product tells, of polynomials of any length."""
    found = [0] * (len(one) + len(other))
    for at, number in enumerate(one):
        if number:
            for k, more in enumerate(other, at):
                found[k] += number * more
    return _trimmed([number % prime for number in found])


def poly_product(prime, one, other):
    """The product."""
    check_prime(prime)
    _check_poly(prime, one)
    _check_poly(prime, other)
    return product_of(prime, one, other)


def divided_by(prime, one, other):
    """What poly_divided tells, of polynomials of any length, other not 0."""
    rest = list(one)
    many = inverse_of(other[-1], prime)
    wide = len(other) - 1
    quotient = [0] * max(0, len(one) - wide)
    for at in range(len(one) - wide - 1, -1, -1):
        number = rest[at + wide] * many % prime
        if number:
            quotient[at] = number
            for k, less in enumerate(other, at):
                rest[k] = (rest[k] - number * less) % prime
    return (_trimmed(quotient), _trimmed(rest[:wide]))


def poly_divided(prime, one, other):
    """The pair (quotient, rest), the rest of a lesser degree than other."""
    check_prime(prime)
    _check_poly(prime, one)
    _check_poly(prime, other)
    if not other:
        raise BadPoly("nothing can be divided by 0")
    return divided_by(prime, one, other)


def _rest_of(prime, one, other):
    return divided_by(prime, one, other)[1]


def made_monic(prime, one):
    """The polynomial, so many times that its last number is 1; () for ()."""
    if not one:
        return ()
    many = inverse_of(one[-1], prime)
    return tuple([number * many % prime for number in one])


def common_of(prime, one, other):
    """What poly_common tells, of polynomials of any length."""
    while other:
        one, other = other, _rest_of(prime, one, other)
    return made_monic(prime, one)


def poly_common(prime, one, other):
    """The monic polynomial of the greatest degree that divides both, () for () twice."""
    check_prime(prime)
    _check_poly(prime, one)
    _check_poly(prime, other)
    return common_of(prime, one, other)


def power_of(prime, one, many):
    """What poly_power tells, of any polynomial and number."""
    found = (1,)
    for _ in range(many):
        found = product_of(prime, found, one)
    return found


def poly_power(prime, one, many):
    """The polynomial, so many times multiplied."""
    check_prime(prime)
    _check_poly(prime, one)
    if not is_number_to(many, GREATEST_POWER):
        raise BadNumber("many")
    return power_of(prime, one, many)


def value_of(prime, one, number):
    """What the polynomial makes of a number."""
    found = 0
    for more in reversed(one):
        found = (found * number + more) % prime
    return found


def plus_times(prime, one, other, many):
    """One and many times other."""
    wide = max(len(one), len(other))
    first = list(one) + [0] * (wide - len(one))
    second = list(other) + [0] * (wide - len(other))
    return _trimmed([(a + many * b) % prime for a, b in zip(first, second)])


def _to_prime(prime, one, modulo):
    """The power to the prime, modulo another polynomial."""
    found = (1,)
    left = prime
    square = one
    while left:
        if left & 1:
            found = _rest_of(prime, product_of(prime, found, square), modulo)
        left = left // 2
        if left:
            square = _rest_of(prime, product_of(prime, square, square), modulo)
    return found


def _trace(prime, one, degree, modulo):
    """The sum of the polynomial's powers to the prime, done again and again, as many as the degree."""
    found = power = _rest_of(prime, one, modulo)
    for _ in range(degree - 1):
        power = _to_prime(prime, power, modulo)
        found = plus_times(prime, found, power, 1)
    return found


def _parted(prime, one, degree):
    """The bare polynomials of this degree whose product, each once, it is.

    Modulo each of them a trace is a number. Those of the powers of x are not the same number modulo
    all of them, for each such power, as they span all choices of numbers.
    """
    if len(one) - 1 == degree:
        return [one]
    for at in range(1, len(one) - 1):
        trace = _trace(prime, tuple([0] * at + [1]), degree, one)
        if len(trace) > 1:
            found = []
            for number in range(prime):
                part = common_of(prime, one, plus_times(prime, trace, (1,), 0 - number))
                if len(part) > 1:
                    found = found + _parted(prime, part, degree)
            return found
    return []


def _taken_out(prime, one, part):
    """How often the part divides one, and what is left."""
    many = 0
    quotient, rest = divided_by(prime, one, part)
    while not rest:
        many += 1
        one = quotient
        quotient, rest = divided_by(prime, one, part)
    return (many, one)


def _with_roots(prime, one):
    """The pairs (bare polynomial, how often) of degree 1, and what is left without them."""
    found = []
    for number in range(prime):
        if len(one) > 1 and value_of(prime, one, number) == 0:
            part = ((0 - number) % prime, 1)
            many, one = _taken_out(prime, one, part)
            found.append((part, many))
    return (found, one)


def parts_of(prime, one):
    """What poly_parts tells, of any monic polynomial.

    Taken out are those of degree 1, 2 and so on: x to the power of prime ** degree, less x, is the
    product of all bare polynomials whose degree divides the degree.
    """
    found, left = _with_roots(prime, one)
    degree = 1
    power = (0, 1)
    while len(left) - 1 >= 2 * (degree + 1):
        degree += 1
        if degree == 2:
            power = _to_prime(prime, power, left)
        power = _to_prime(prime, _rest_of(prime, power, left), left)
        product = common_of(prime, left, plus_times(prime, power, (0, 1), -1))
        if len(product) > 1:
            for part in _parted(prime, product, degree):
                many, left = _taken_out(prime, left, part)
                found.append((part, many))
    if len(left) > 1:
        found.append((left, 1))
    return sorted(found)


def poly_parts(prime, one):
    """The ascending list of the pairs (bare polynomial, how often) whose product it is."""
    check_prime(prime)
    _check_poly(prime, one)
    if one[-1:] != (1,):
        raise BadPoly("a monic polynomial is wanted")
    return parts_of(prime, one)


def is_bare_poly(prime, one):
    """Whether a polynomial is monic, of degree 1 or more, and no product of two of lesser degrees."""
    if len(one) < 2 or one[-1] != 1:
        return False
    if len(one) == 2:
        return True
    if any([value_of(prime, one, number) == 0 for number in range(prime)]):
        return False
    power = _to_prime(prime, (0, 1), one)
    for _ in range(2, (len(one) - 1) // 2 + 1):
        power = _to_prime(prime, power, one)
        if len(common_of(prime, one, plus_times(prime, power, (0, 1), -1))) > 1:
            return False
    return True


def is_bare(prime, thing):
    """Whether thing, which may be anything, is a bare polynomial over the prime."""
    check_prime(prime)
    return _are_numbers_of(prime, thing) and is_bare_poly(prime, thing)


def _monic_polys(prime, degree):
    """All monic polynomials of this degree, ascending."""
    found = [()]
    for _ in range(degree):
        found = [ahead + (number,) for ahead in found for number in range(prime)]
    return [ahead + (1,) for ahead in found]


def all_bare(prime, degree):
    """The ascending list of all bare polynomials of this degree."""
    product = {}
    for less in range(1, degree // 2 + 1):
        others = _monic_polys(prime, degree - less)
        for one in all_bare(prime, less):
            for other in others:
                product[product_of(prime, one, other)] = True
    return [one for one in _monic_polys(prime, degree) if one not in product]


def bare_polys(prime, degree):
    """The ascending list of all bare polynomials of this degree."""
    check_prime(prime)
    if not is_number(degree) or not 1 <= degree <= GREATEST_DEGREE:
        raise BadNumber("degree")
    many = 1
    for _ in range(degree):
        many = many * prime
    if many > MOST_TRIED:
        raise TooMany(MOST_TRIED)
    return all_bare(prime, degree)


def companion_of(prime, one):
    """What companion tells, of any monic polynomial of a degree from 1 to 60."""
    many = len(one) - 1
    lines = [[0] * many for _ in range(many)]
    for k in range(1, many):
        lines[k][k - 1] = 1
    for k in range(many):
        lines[k][many - 1] -= one[k]
    return Table(prime, many, many, lines)


def companion(prime, one):
    """The Table with 1 close below the diagonal, and minus the numbers of the polynomial in the last column."""
    check_prime(prime)
    _check_poly(prime, one)
    if len(one) < 2 or one[-1] != 1:
        raise BadPoly("a monic polynomial of degree 1 or more is wanted")
    return companion_of(prime, one)
