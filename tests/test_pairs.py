"""Point [121]: pairs of tables, the names of the least ones, kinds and their sums."""

import unittest

from boughwebs.nets import Net
from boughwebs.pairs import is_least_name, is_pair_kind, least_pair, least_sizes, pair_net, sum_of_kind
from boughwebs.polys import bare_polys, companion, poly_power
from boughwebs.splits import is_least
from boughwebs.tables import Table, beside, empty, over, plain
from boughwebs.webs import bare, sum_of
from tests.drawn import check_order, drawn, error_of, of_other_kinds
from tests.test_polys import WRONG_PRIMES

BARE = {prime: bare_polys(prime, 1) + bare_polys(prime, 2) for prime in (2, 3, 5)}
BARE[97] = bare_polys(97, 1)[::16]


def small_names(prime, most=3):
    """The names of least pairs with small sizes."""
    found = [(word, k) for word in ("down", "up") for k in range(most)] + [("far", e) for e in range(1, most + 1)]
    return sorted(found + [("turn", poly, e) for poly in BARE[prime] for e in range(1, most // (len(poly) - 1) + 1)])


def drawn_names(draw, prime, most=5):
    """A kind of pairs with up to so many small names."""
    names = small_names(prime)
    return tuple(sorted(draw.choice(names) for _ in range(draw.randrange(most + 1))))


class NamesTest(unittest.TestCase):

    def test_net(self):
        self.assertEqual(pair_net(), Net(2, ((0, 1), (0, 1))))

    def test_least_pairs(self):
        for prime in BARE:
            for name in small_names(prime):
                self.assertIs(is_least_name(prime=prime, thing=name), True)
                web = least_pair(prime=prime, name=name)
                self.assertEqual((web.net, web.prime), (pair_net(), prime))
                self.assertEqual(web.sizes, least_sizes(prime=prime, name=name))
                first, second = web.tables
                if name[0] == "up":
                    k = name[1]
                    told = [over([plain(prime, k), empty(prime, 1, k)]), over([empty(prime, 1, k), plain(prime, k)])]
                elif name[0] == "down":
                    k = name[1]
                    told = [beside([plain(prime, k), empty(prime, k, 1)]), beside([empty(prime, k, 1), plain(prime, k)])]
                elif name[0] == "turn":
                    told = [plain(prime, web.sizes[0]), companion(prime, poly_power(prime, name[1], name[2]))]
                else:
                    e = name[1]
                    told = [Table(prime, e, e, [[int(i == j + 1) for j in range(e)] for i in range(e)]),
                            plain(prime, e)]
                self.assertEqual([first, second], told)
                if prime == 2 and sum(web.sizes) < 5:
                    self.assertIs(is_least(web), True)

    def test_sizes(self):
        for name, sizes in ((("up", 0), (0, 1)), (("up", 59), (59, 60)), (("down", 0), (1, 0)), (("down", 59), (60, 59)),
                            (("far", 1), (1, 1)), (("far", 60), (60, 60)), (("turn", (1, 1), 60), (60, 60)),
                            (("turn", (1, 1, 1), 30), (60, 60)), (("turn", (1, 1, 0, 1), 2), (6, 6))):
            self.assertEqual(least_sizes(2, name), sizes)
            self.assertEqual(least_pair(2, name).sizes, sizes)

    def test_names_at_their_bounds(self):
        for name in (("up", 60), ("up", -1), ("down", 60), ("far", 0), ("far", 61), ("turn", (1, 1), 0),
                     ("turn", (1, 1), 61), ("turn", (1, 1, 1), 31), ("turn", (1, 0, 1), 1), ("turn", (1,), 1),
                     ("turn", (), 1), ("turn", (1, 1)), ("up",), ("up", 1, 1), ("far", (1, 1), 1), ("Up", 1), (), None, 3,
                     "up", ["up", 1], ("turn", [1, 1], 1), ("up", True), ("far", True), ("turn", (1, 1), True),
                     ("turn", (True, True), 1), ("up", 1.0), (1, "up"), ("turn", (1, 3), 1), ("turn", (2, 1), 1)):
            self.assertIs(is_least_name(2, name), False)
            for work in (least_pair, least_sizes):
                check_order(self, work, {"prime": 2, "name": ("up", 1)}, [("prime", 9, ("BadPrime",)),
                                                                          ("name", name, ("BadLeast",))])
        for prime in BARE:
            for name in small_names(prime, 2):
                for other in of_other_kinds(name):
                    self.assertIs(is_least_name(prime, other), False)
        for prime in WRONG_PRIMES:
            self.assertEqual(error_of(is_least_name, prime, None), ("BadPrime",))
            self.assertEqual(error_of(is_pair_kind, prime, None), ("BadPrime",))
        # A polynomial that is bare over one prime alone.
        self.assertIs(is_least_name(2, ("turn", (1, 1, 1), 1)), True)
        self.assertIs(is_least_name(3, ("turn", (1, 1, 1), 1)), False)


class KindsTest(unittest.TestCase):

    def test_sums(self):
        draw = drawn(1211)
        for prime in BARE:
            for _ in range(15):
                kind = drawn_names(draw, prime)
                self.assertIs(is_pair_kind(prime=prime, thing=kind), True)
                web = sum_of_kind(prime=prime, kind=kind)
                told = [least_pair(prime, name) for name in kind]
                self.assertEqual(web, sum_of(told) if told else bare(pair_net(), prime, (0, 0)))
                for thing in of_other_kinds(kind):
                    self.assertIs(is_pair_kind(prime, thing), False)
                self.assertIs(is_pair_kind(prime, kind[::-1]), kind == kind[::-1])

    def test_too_great(self):
        for kind in ((("far", 60),), (("up", 0),) * 60, (("down", 29), ("down", 29)), (("far", 30), ("turn", (1, 1), 30)),
                     (("down", 0),) * 60 + (("up", 0),) * 60):
            self.assertIs(is_pair_kind(2, kind), True)
            self.assertEqual(max(sum_of_kind(2, kind).sizes), 60)
            more = tuple(sorted(kind + (("far", 1),)))
            self.assertIs(is_pair_kind(2, more), False)
            self.assertEqual(error_of(sum_of_kind, 2, more), ("BadPairKind", None))

    def test_errors_in_their_order(self):
        great = (("far", 60), ("far", 60))
        for kind, at in ((None, None), ([], None), ([("up", 1)], None), ({}, None), (("up", 1), 0), ((None,), 0),
                         ((("up", 1), ("up", 0)), 1), ((("up", 0), ("down", 1)), 1), ((("up", 1), None, ("up", 0)), 1),
                         (great, None), (great + (None,), 2), (great + (("far", 59),), 2), ((("far", 61),), 0),
                         ((("far", 1), ["far", 1]), 1), ((("down", 1), ("down", True)), 1)):
            self.assertIs(is_pair_kind(2, kind), False)
            for prime in WRONG_PRIMES:
                check_order(self, sum_of_kind, {"prime": 2, "kind": (("far", 1), ("up", 1))}, [
                    ("prime", prime, ("BadPrime",)), ("kind", kind, ("BadPairKind", at))])


if __name__ == "__main__":
    unittest.main()
