"""Point [125]: how many pairs of tables there are of each kind."""

import unittest

from boughwebs.pairforms import kind_of_pair
from boughwebs.paircounts import common_kind, kinds_of_sizes, many_of_kind, self_maps
from boughwebs.pairmaps import kind_maps
from boughwebs.pairs import is_pair_kind, sum_of_kind
from boughwebs.solving import count_whole, is_whole
from boughwebs.webs import Web
from tests.drawn import PAIR, all_maps, all_tables, check_order, drawn, error_of
from tests.test_pairmaps import WRONG_KINDS
from tests.test_pairs import BARE, drawn_names
from tests.test_polys import WRONG_PRIMES

WRONG_SIZES = [None, [1, 1], (1,), (1, 1, 1), (5, 0), (0, -1), (True, 1), (1.0, 1), "11", 3]


def whole_over(number, size):
    """The product of number ** size - number ** k over all k below size."""
    found = 1
    for k in range(size):
        found *= number ** size - number ** k
    return found


def count_lone(one, other, last=None):
    """How many kinds of ups and downs alone have these sizes."""
    last = (9, 9) if last is None else last
    if (one, other) == (0, 0):
        return 1
    names = [(k, k + 1) for k in range(one + 1)] + [(k + 1, k) for k in range(other + 1)]
    return sum(count_lone(one - a, other - b, (a, b)) for a, b in names if (a, b) <= last and a <= one and b <= other)


def count_regular(prime, size):
    """How many kinds of turns and fars alone have this size.

    Item size of the product of 1 / (1 - x ** k) and 1 / (1 - prime * x ** k) over all k.
    """
    found = [1] + [0] * size
    for k in range(1, size + 1):
        for number in (1, prime):
            for at in range(k, size + 1):
                found[at] += number * found[at - k]
    return found[size]


class SelfMapsTest(unittest.TestCase):

    def test_against_all_maps(self):
        for prime, sizes in ((2, (1, 1)), (2, (2, 1)), (2, (1, 2)), (2, (2, 2)), (2, (0, 2)), (3, (1, 1)), (3, (2, 1)),
                             (2, (0, 0))):
            for kind in kinds_of_sizes(prime, sizes):
                web = sum_of_kind(prime, kind)
                told = [mapping for mapping in all_maps(web, web) if all(is_whole(table) for table in mapping)]
                self.assertEqual(self_maps(prime=prime, kind=kind), len(told))

    def test_by_the_fact(self):
        draw = drawn(1241)
        for prime in BARE:
            for _ in range(30):
                kind = drawn_names(draw, prime, 7)
                power = kind_maps(prime, kind, kind)
                found = 1
                for name in sorted(set(kind)):
                    degree = len(name[1]) - 1 if name[0] == "turn" else 1
                    power -= degree * kind.count(name) ** 2
                    found *= whole_over(prime ** degree, kind.count(name))
                self.assertEqual(self_maps(prime, kind), found * prime ** power)
                sizes = sum_of_kind(prime, kind).sizes
                self.assertEqual(many_of_kind(prime=prime, kind=kind) * self_maps(prime, kind),
                                 count_whole(prime, sizes[0]) * count_whole(prime, sizes[1]))
        self.assertEqual((self_maps(2, ()), many_of_kind(2, ())), (1, 1))
        self.assertEqual(self_maps(3, (("far", 1), ("far", 1))), 48)
        self.assertEqual(self_maps(2, (("turn", (1, 1, 1), 1),)), 3)


class KindsTest(unittest.TestCase):

    def test_all_sum_up(self):
        for prime, most in ((2, 4), (3, 4), (5, 3), (7, 3), (23, 2), (67, 2), (97, 1)):
            for one in range(most + 1):
                for other in range(most + 1):
                    found = kinds_of_sizes(prime=prime, sizes=(one, other))
                    self.assertIs(type(found), list)
                    self.assertEqual(found, sorted(found))
                    self.assertEqual(len({kind for kind in found}), len(found))
                    for kind in found[:40]:
                        self.assertIs(is_pair_kind(prime, kind), True)
                        self.assertEqual(sum_of_kind(prime, kind).sizes, (one, other))
                    told = sum(many_of_kind(prime, kind) for kind in found)
                    self.assertEqual(told, prime ** (2 * one * other))

    def test_against_all_tables(self):
        for prime, sizes in ((2, (1, 2)), (2, (2, 2)), (3, (1, 1)), (2, (3, 1)), (2, (0, 2))):
            seen = {}
            for first in all_tables(prime, sizes[1], sizes[0]):
                for second in all_tables(prime, sizes[1], sizes[0]):
                    kind = kind_of_pair(Web(PAIR, prime, sizes, [first, second]))
                    seen[kind] = seen.get(kind, 0) + 1
            self.assertEqual(sorted(seen), kinds_of_sizes(prime, sizes))
            self.assertEqual(seen, {kind: many_of_kind(prime, kind) for kind in seen})

    def test_common_kind(self):
        for prime, most in ((2, 4), (3, 3), (5, 2), (97, 1)):
            for one in range(most + 1):
                for other in range(most + 1):
                    kinds = kinds_of_sizes(prime, (one, other))
                    many = [many_of_kind(prime, kind) for kind in kinds]
                    told = kinds[many.index(max(many))]
                    self.assertEqual(common_kind(prime=prime, sizes=(one, other)), told)
        # The least of equals.
        self.assertEqual(common_kind(5, (1, 1)), (("far", 1),))
        self.assertEqual(common_kind(5, (1, 2)), (("up", 1),))

    def test_how_many_kinds(self):
        for prime, most in ((2, 4), (3, 4), (7, 4), (13, 3), (67, 2)):
            for one in range(most + 1):
                for other in range(most + 1):
                    told = sum(count_lone(one - size, other - size) * count_regular(prime, size)
                               for size in range(min(one, other) + 1))
                    self.assertEqual(len(kinds_of_sizes(prime, (one, other))), told)

    def test_5000_kinds(self):
        told = {prime: sum(count_lone(2 - size, 2 - size) * count_regular(prime, size) for size in range(3))
                for prime in (67, 71)}
        self.assertTrue(told[67] <= 5000 < told[71])
        self.assertEqual(len(kinds_of_sizes(97, (4, 0))), 1)
        for prime, sizes in ((71, (2, 2)), (71, (2, 4)), (11, (4, 4)), (17, (3, 3)), (97, (4, 4))):
            for work in (kinds_of_sizes, common_kind):
                self.assertEqual(error_of(work, prime, sizes), ("TooMany", 5000))

    def test_errors_in_their_order(self):
        for prime in WRONG_PRIMES:
            for kind, at in WRONG_KINDS:
                for work in (self_maps, many_of_kind):
                    check_order(self, work, {"prime": 2, "kind": (("up", 1),)}, [
                        ("prime", prime, ("BadPrime",)), ("kind", kind, ("BadPairKind", at))])
            for sizes in WRONG_SIZES:
                for work in (kinds_of_sizes, common_kind):
                    check_order(self, work, {"prime": 2, "sizes": (1, 2)}, [
                        ("prime", prime, ("BadPrime",)), ("sizes", sizes, ("BadNumber", "sizes"))])


if __name__ == "__main__":
    unittest.main()
