"""Point [120]: polynomials over a prime."""

import unittest
from itertools import product

from boughwebs.polys import (bare_polys, companion, is_bare, is_poly, poly_common, poly_divided, poly_parts, poly_power,
                             poly_product)
from boughwebs.tables import Table, empty, plain, plus, scaled, times
from tests.drawn import check_order, drawn, error_of, of_other_kinds

PRIMES = (2, 3, 5, 97)
WRONG_PRIMES = (None, 1, 4, 101, True, "3", 3.0)
WRONG_POLYS = (None, [1], (0,), (1, 0), (3,), (-1, 1), (True,), (1.0,), "1", {}, 1, (1,) * 62)


def product_plainly(prime, one, other):
    found = [0] * (len(one) + len(other))
    for i, a in enumerate(one):
        for j, b in enumerate(other):
            found[i + j] = (found[i + j] + a * b) % prime
    while found and not found[-1]:
        found.pop()
    return tuple(found)


def plus_plainly(prime, one, other):
    wide = max(len(one), len(other))
    found = [(a + b) % prime for a, b in zip(one + (0,) * (wide - len(one)), other + (0,) * (wide - len(other)))]
    while found and not found[-1]:
        found.pop()
    return tuple(found)


def monic(prime, degree):
    """All monic polynomials of this degree, ascending."""
    return [numbers + (1,) for numbers in product(range(prime), repeat=degree)]


def bare_plainly(prime, degree):
    """By trying all products."""
    made = {product_plainly(prime, one, other) for less in range(1, degree // 2 + 1)
            for one in monic(prime, less) for other in monic(prime, degree - less)}
    return [one for one in monic(prime, degree) if one not in made]


def drawn_poly(draw, prime, most):
    numbers = tuple(draw.randrange(prime) for _ in range(draw.randrange(most + 1)))
    return numbers + (draw.randrange(1, prime),) if draw.random() < 0.9 else ()


class PolyTest(unittest.TestCase):

    def test_is_poly(self):
        for prime in PRIMES:
            for thing in ((), (1,), (0, 1), (prime - 1,) * 61):
                self.assertIs(is_poly(prime=prime, thing=thing), True)
            for thing in WRONG_POLYS + ((prime,), (0,) * 61 + (1,)):
                if thing != (3,) or prime <= 3:
                    self.assertIs(is_poly(prime, thing), False)
            for thing in of_other_kinds((0, 1)):
                self.assertIs(is_poly(prime, thing), False)
        for work in (is_poly, is_bare):
            for prime in WRONG_PRIMES:
                self.assertEqual(error_of(work, prime, None), ("BadPrime",))

    def test_products_and_rests(self):
        draw = drawn(1201)
        for prime in PRIMES:
            for _ in range(60):
                one, other = drawn_poly(draw, prime, 8), drawn_poly(draw, prime, 5)
                self.assertEqual(poly_product(prime=prime, one=one, other=other), product_plainly(prime, one, other))
                if other:
                    found = poly_divided(prime=prime, one=one, other=other)
                    self.assertIs(type(found), tuple)
                    quotient, rest = found
                    self.assertTrue(is_poly(prime, quotient) and is_poly(prime, rest))
                    self.assertLess(len(rest), len(other))
                    self.assertEqual(plus_plainly(prime, product_plainly(prime, quotient, other), rest), one)
        self.assertEqual(error_of(poly_divided, 3, (1, 1), ()), ("BadPoly",))
        self.assertEqual(poly_divided(5, (1, 2, 3), (2,)), ((3, 1, 4), ()))
        # What is returned may be longer.
        long = (1,) * 61
        self.assertEqual(len(poly_product(2, long, long)), 121)

    def test_common(self):
        draw = drawn(1202)
        for prime in PRIMES:
            for _ in range(40):
                one, other, third = [drawn_poly(draw, prime, 4) for _ in range(3)]
                first, second = product_plainly(prime, one, third), product_plainly(prime, other, third)
                found = poly_common(prime=prime, one=first, other=second)
                if not first and not second:
                    self.assertEqual(found, ())
                    continue
                self.assertEqual(found[-1], 1)
                for some in (first, second):
                    self.assertEqual(poly_divided(prime, some, found)[1], ())
                if third:
                    self.assertEqual(poly_divided(prime, found, third)[1], ())
                if prime < 5:
                    # None of a greater degree divides both.
                    for more in monic(prime, len(found)):
                        self.assertTrue(any(poly_divided(prime, some, more)[1] for some in (first, second)))
        self.assertEqual(poly_common(3, (), ()), ())
        self.assertEqual(poly_common(3, (), (2, 2)), (1, 1))

    def test_powers(self):
        draw = drawn(1203)
        for prime in PRIMES:
            one = drawn_poly(draw, prime, 3)
            told = (1,)
            for many in range(6):
                self.assertEqual(poly_power(prime=prime, one=one, many=many), told)
                told = product_plainly(prime, told, one)
        self.assertEqual(poly_power(2, (), 0), (1,))
        self.assertEqual(len(poly_power(2, (1, 1), 60)), 61)
        self.assertEqual(len(poly_power(97, (0,) * 60 + (1,), 60)), 3601)

    def test_parts(self):
        draw = drawn(1204)
        for prime in PRIMES:
            for _ in range(40):
                one = (1,)
                while len(one) < 20 and draw.random() < 0.8:
                    more = tuple(draw.randrange(prime) for _ in range(draw.randrange(1, 5))) + (1,)
                    for _ in range(draw.randrange(1, 4)):
                        one = product_plainly(prime, one, more)
                found = poly_parts(prime=prime, one=one)
                self.assertIs(type(found), list)
                self.assertEqual(found, sorted(found))
                self.assertEqual(len({part for part, _ in found}), len(found))
                told = (1,)
                for part, many in found:
                    self.assertIs(is_bare(prime, part), True)
                    self.assertGreater(many, 0)
                    told = product_plainly(prime, told, poly_power(prime, part, many))
                self.assertEqual(told, one)
        self.assertEqual(poly_parts(5, (1,)), [])
        self.assertEqual(poly_parts(2, (0,) * 60 + (1,)), [((0, 1), 60)])
        self.assertEqual(poly_parts(2, (1, 0, 1, 0, 1)), [((1, 1, 1), 2)])
        for one in ((), (2,), (1, 2)):
            self.assertEqual(error_of(poly_parts, 5, one), ("BadPoly",))

    def test_great_degrees(self):
        # All bare polynomials whose degree divides n multiply to x to the power of prime ** n, less x.
        self.assertEqual([part for part, _ in poly_parts(2, (0, 1) + (0,) * 30 + (1,))],
                         sorted(bare_polys(2, 1) + bare_polys(2, 5)))
        self.assertEqual([part for part, _ in poly_parts(3, (0, 2) + (0,) * 25 + (1,))],
                         sorted(bare_polys(3, 1) + bare_polys(3, 3)))
        self.assertEqual(poly_parts(59, (0, 58) + (0,) * 57 + (1,)), [((a, 1), 1) for a in range(59)])
        draw = drawn(1205)
        for prime in (2, 97):
            one = tuple(draw.randrange(prime) for _ in range(60)) + (1,)
            told = (1,)
            for part, many in poly_parts(prime, one):
                told = product_plainly(prime, told, poly_power(prime, part, many))
            self.assertEqual(told, one)


class BareTest(unittest.TestCase):

    def test_against_trying_all(self):
        for prime, most in ((2, 6), (3, 4), (5, 3), (7, 2), (97, 1)):
            for degree in range(1, most + 1):
                told = bare_plainly(prime, degree)
                self.assertEqual(bare_polys(prime=prime, degree=degree), told)
                for one in monic(prime, degree)[:300]:
                    self.assertIs(is_bare(prime=prime, thing=one), one in told)

    def test_degrees_sum_up(self):
        for prime in (2, 3, 5, 11, 23, 97):
            for many in range(1, 7):
                if prime ** many <= 20000:
                    told = sum(degree * len(bare_polys(prime, degree)) for degree in range(1, many + 1)
                               if many % degree == 0)
                    self.assertEqual(told, prime ** many)

    def test_is_bare_of_any_value(self):
        for thing in WRONG_POLYS + ((), (1,), (2, 2), (1, 2), (0, 0, 1), (2, 0, 1), (1, 0, 2), [0, 1]):
            self.assertIs(is_bare(3, thing), False)
        for thing in ((0, 1), (2, 1), (1, 0, 1), (1, 2, 0, 1)):
            self.assertIs(is_bare(3, thing), True)
            for other in of_other_kinds(thing):
                self.assertIs(is_bare(3, other), False)
        self.assertIs(is_bare(2, (1,) + (1,) + (0,) * 58 + (1,)), True)
        self.assertIs(is_bare(2, (1,) + (0,) * 59 + (1,)), False)

    def test_too_many(self):
        for prime, degree, told in ((2, 6, None), (5, 6, None), (7, 6, 20000), (7, 5, None), (11, 4, None),
                                    (11, 5, 20000), (13, 4, 20000), (23, 3, None), (29, 3, 20000), (97, 2, None),
                                    (97, 3, 20000)):
            self.assertEqual(error_of(bare_polys, prime, degree), None if told is None else ("TooMany", told))
        for degree in (None, 0, 7, -1, True, 2.0):
            for prime in WRONG_PRIMES:
                check_order(self, bare_polys, {"prime": 2, "degree": 2}, [
                    ("prime", prime, ("BadPrime",)), ("degree", degree, ("BadNumber", "degree"))])


class CompanionTest(unittest.TestCase):

    def test_companions(self):
        draw = drawn(1206)
        for prime in PRIMES:
            for _ in range(15):
                one = tuple(draw.randrange(prime) for _ in range(draw.randrange(1, 7))) + (1,)
                table = companion(prime=prime, one=one)
                size = len(one) - 1
                self.assertEqual((table.prime, table.tall, table.wide), (prime, size, size))
                for i in range(size):
                    for j in range(size):
                        told = -one[i] % prime if j == size - 1 else int(i == j + 1)
                        self.assertEqual(table.lines[i][j], told)
                # It is a root of its polynomial.
                value = empty(prime, size, size)
                for number in reversed(one):
                    value = plus(times(value, table), scaled(plain(prime, size), number))
                self.assertEqual(value, empty(prime, size, size))
        self.assertEqual(companion(5, (2, 1)), Table(5, 1, 1, [[3]]))
        self.assertEqual(companion(5, (2, 3, 1)), Table(5, 2, 2, [[0, 3], [1, 2]]))
        self.assertEqual(companion(2, (1,) * 61).tall, 60)
        for one in ((), (1,), (1, 2), (2,)):
            self.assertEqual(error_of(companion, 5, one), ("BadPoly",))


class ErrorsTest(unittest.TestCase):

    def test_errors_in_their_order(self):
        for prime in WRONG_PRIMES:
            for poly in WRONG_POLYS:
                steps = [("prime", prime, ("BadPrime",)), ("one", poly, ("BadPoly",))]
                for work in (poly_product, poly_divided, poly_common):
                    check_order(self, work, {"prime": 3, "one": (1, 2), "other": (2, 1)},
                                steps + [("other", poly, ("BadPoly",))])
                for work in (poly_parts, companion):
                    check_order(self, work, {"prime": 3, "one": (1, 1)}, steps)
                for many in (None, -1, 61, True, 2.0):
                    check_order(self, poly_power, {"prime": 3, "one": (1, 2), "many": 2},
                                steps + [("many", many, ("BadNumber", "many"))])


if __name__ == "__main__":
    unittest.main()
