"""Points [123], [124]: maps told by names, pairs told apart, mixed and turned."""

import unittest

from boughwebs.joinings import count_joinings
from boughwebs.maps import count_maps, is_alike
from boughwebs.pairforms import kind_of_pair
from boughwebs.pairmaps import (alike_by, kind_joinings, kind_maps, least_maps, mixed, mixed_kind, parted_by, turned_kind)
from boughwebs.pairs import least_pair, least_sizes, sum_of_kind
from boughwebs.polys import bare_polys
from boughwebs.tables import Table, plain, plus, scaled
from boughwebs.webs import Web, bare
from tests.drawn import PAIR, check_order, drawn, drawn_web, error_of, turned_about
from tests.test_pairforms import NO_PAIRS, turned_across
from tests.test_pairs import BARE, drawn_names, small_names
from tests.test_polys import WRONG_PRIMES

WRONG_NAMES = [("up", 60), ("turn", (1, 0, 1), 1), None, ["up", 1], ("far", True)]
WRONG_KINDS = [(None, None), ([("up", 1)], None), ((("up", 1), ("up", 0)), 1), ((("up", True),), 0),
               ((("far", 60), ("far", 60)), None)]


def names_by_sum(prime, most):
    """All names of least pairs by the sum of their sizes, then as tuples."""
    for total in range(1, most + 1):
        found = [("down", total // 2), ("up", total // 2)]
        if total % 2 == 0:
            size = total // 2
            found = [("far", size)] + [("turn", poly, size // degree) for degree in range(1, size + 1)
                                       if size % degree == 0 for poly in bare_polys(prime, degree)]
        for name in sorted(found):
            yield name


def drawn_four(draw, prime):
    while True:
        four = tuple(draw.randrange(-9, 10) for _ in range(4))
        if (four[0] * four[3] - four[1] * four[2]) % prime:
            return four


class MapsTest(unittest.TestCase):

    def test_least_maps(self):
        for prime, most in ((2, 3), (3, 2), (5, 2)):
            names = small_names(prime, most)
            if prime > 2:
                names = [name for name in names if name[0] != "turn" or len(name[1]) == 2] + [name for name in names if
                                                                                             len(name) == 3][-2:]
            for one in names:
                for other in names:
                    told = count_maps(least_pair(prime, one), least_pair(prime, other))
                    self.assertEqual(least_maps(prime=prime, one=one, other=other), told)

    def test_greater_names(self):
        names = [("up", 5), ("up", 2), ("down", 4), ("down", 1), ("far", 5), ("far", 2), ("turn", (1, 1), 4),
                 ("turn", (1, 1), 2), ("turn", (0, 1), 3), ("turn", (1, 1, 1), 3), ("turn", (1, 1, 1), 2),
                 ("turn", (1, 1, 0, 1), 1)]
        for one in names:
            for other in names:
                told = count_maps(least_pair(2, one), least_pair(2, other))
                self.assertEqual(least_maps(2, one, other), told)
        self.assertEqual(least_maps(2, ("up", 59), ("down", 59)), 118)
        self.assertEqual(least_maps(2, ("up", 0), ("up", 59)), 60)

    def test_kinds(self):
        draw = drawn(1231)
        for prime in BARE:
            for _ in range(15):
                one, other = drawn_names(draw, prime, 4), drawn_names(draw, prime, 4)
                webs = [sum_of_kind(prime, kind) for kind in (one, other)]
                if error_of(count_maps, *webs) is not None:
                    continue
                self.assertEqual(kind_maps(prime=prime, one=one, other=other), count_maps(*webs))
                found = kind_joinings(prime=prime, one=one, other=other)
                self.assertGreaterEqual(found, 0)
                if error_of(count_joinings, *webs) is None:
                    self.assertEqual(found, count_joinings(*webs))
        self.assertEqual(kind_maps(2, (), (("up", 0),)), 0)
        self.assertEqual(kind_joinings(2, (("down", 0),), (("up", 0),)), 2)

    def test_errors_in_their_order(self):
        for prime in WRONG_PRIMES:
            for name in WRONG_NAMES:
                check_order(self, least_maps, {"prime": 2, "one": ("up", 1), "other": ("far", 1)}, [
                    ("prime", prime, ("BadPrime",)), ("one", name, ("BadLeast",)), ("other", name, ("BadLeast",))])
            for kind, at in WRONG_KINDS:
                for work in (kind_maps, kind_joinings):
                    check_order(self, work, {"prime": 2, "one": (("up", 1),), "other": ()}, [
                        ("prime", prime, ("BadPrime",)), ("one", kind, ("BadPairKind", at)),
                        ("other", kind, ("BadPairKind", at))])
                check_order(self, turned_kind, {"prime": 2, "kind": (("up", 1),)}, [
                    ("prime", prime, ("BadPrime",)), ("kind", kind, ("BadPairKind", at))])


class ApartTest(unittest.TestCase):

    def judged(self, one, other):
        """Just one of both is there; what it is."""
        name, mapping = parted_by(one=one, other=other), alike_by(one=one, other=other)
        self.assertIs(name is None, kind_of_pair(one) == kind_of_pair(other))
        self.assertIs(mapping is None, name is not None)
        if name is None:
            self.assertIs(is_alike(one, other, mapping), True)
            self.assertEqual(alike_by(one, other), mapping)
            return None
        kinds = kind_of_pair(one), kind_of_pair(other)
        for least in names_by_sum(one.prime, min(12, max(sum(one.sizes), sum(other.sizes)))):
            many = [kind_maps(one.prime, (least,), kind) for kind in kinds]
            if many[0] != many[1]:
                self.assertEqual(name, (least, *many))
                return name
        self.fail("no name was found")

    def test_drawn_pairs(self):
        draw = drawn(1232)
        seen = {True: 0, False: 0}
        for prime in (2, 3, 5):
            for _ in range(60):
                sizes = (draw.randrange(5), draw.randrange(5))
                one = drawn_web(draw, PAIR, prime, sizes, draw.choice((0.3, 0.6, 0.9)))
                others = [drawn_web(draw, PAIR, prime, sizes, 0.5), turned_about(draw, one),
                          drawn_web(draw, PAIR, prime, (draw.randrange(5), draw.randrange(5)))]
                for other in others:
                    seen[self.judged(one, other) is None] += 1
        self.assertGreater(min(seen.values()), 100)

    def test_kinds_that_are_near(self):
        draw = drawn(1233)
        found = []
        for prime in (2, 3):
            for _ in range(60):
                kinds = [drawn_names(draw, prime, 3) for _ in range(2)]
                webs = [sum_of_kind(prime, kind) for kind in kinds]
                if max(sum(web.sizes) for web in webs) <= 12:
                    found.append(self.judged(*webs))
        self.assertGreater(len({name[0][0] for name in found if name is not None}), 2)

    def test_turns_that_make_up_for_downs(self):
        # Over 2 a down is made up for at three points, so that a polynomial of degree 2 tells first.
        one = (("down", 1), ("up", 2), ("up", 2))
        other = (("far", 1), ("turn", (0, 1), 1), ("turn", (1, 1), 1), ("up", 0), ("up", 3))
        found = self.judged(sum_of_kind(2, one), sum_of_kind(2, tuple(sorted(other))))
        self.assertIsNotNone(found)
        for first, second in (((("far", 1),), (("turn", (0, 1), 1),)), ((("far", 2),), (("far", 1),) * 2),
                              ((("turn", (1, 1, 1), 2),), (("turn", (1, 1, 1), 1),) * 2),
                              ((("down", 1),), (("down", 0), ("far", 1))), ((("up", 1),), (("far", 1), ("up", 0)))):
            self.assertIsNotNone(self.judged(sum_of_kind(2, first), sum_of_kind(2, second)))

    def test_by_hand(self):
        one, other = least_pair(3, ("turn", (2, 1), 1)), least_pair(3, ("turn", (1, 1), 1))
        self.assertEqual(parted_by(one, other), (("turn", (1, 1), 1), 0, 1))
        self.assertEqual(parted_by(one, bare(PAIR, 3, (0, 0))), (("up", 0), 1, 0))
        self.assertEqual(parted_by(bare(PAIR, 3, (1, 0)), bare(PAIR, 3, (0, 1))), (("down", 0), 1, 0))
        self.assertIsNone(parted_by(bare(PAIR, 3, (0, 0)), bare(PAIR, 3, (0, 0))))

    def test_what_tells_late(self):
        quads = [("turn", poly, 1) for poly in bare_polys(3, 2)]
        for first, second, told in (
                ((("up", 1), ("up", 3)), (("up", 2),) * 2, (("up", 3), 1, 0)),
                ((("up", 4), ("up", 6)), (("up", 5),) * 2, (("up", 6), 1, 0)),
                ((("down", 1), ("down", 3)), (("down", 2),) * 2, (("down", 1), 1, 0)),
                ((("down", 5),) * 2, (("down", 4), ("down", 6)), (("down", 4), 0, 1)),
                # Fars tell here, too, but later.
                ((("down", 2), ("down", 4), ("far", 2), ("far", 4)), (("down", 3), ("far", 3)) * 2, (("down", 2), 1, 0)),
                ((("up", 2), ("up", 4), ("far", 4), ("far", 6)), (("up", 3), ("far", 5)) * 2, (("up", 4), 11, 10)),
                ((quads[0],), (quads[1],), (quads[0], 2, 0)),
                # The polynomials tell at the same sum, but behind the far.
                ((("far", 1), ("far", 3), quads[0]), (("far", 2), ("far", 2), quads[1]), (("far", 2), 3, 4)),
                ((("turn", (1, 1), 1), ("turn", (1, 1), 3), quads[0]), (("turn", (1, 1), 2),) * 2 + (quads[1],),
                 min([(quads[0], 2, 0), (quads[1], 0, 2), (("turn", (1, 1), 2), 3, 4)]))):
            webs = [sum_of_kind(3, tuple(sorted(kind))) for kind in (first, second)]
            self.assertEqual(parted_by(*webs), told)
            self.assertIsNone(alike_by(*webs))

    def test_errors_in_their_order(self):
        web = bare(PAIR, 3, (1, 1))
        for wrong in NO_PAIRS:
            for work in (parted_by, alike_by):
                check_order(self, work, {"one": web, "other": web}, [
                    ("one", wrong, ("NotPair",)), ("other", wrong, ("NotPair",)),
                    ("other", bare(PAIR, 5, (1, 1)), ("OtherNet",))])


class MixedTest(unittest.TestCase):

    def test_mixed(self):
        draw = drawn(1234)
        for prime in BARE:
            for _ in range(25):
                four = drawn_four(draw, prime)
                web = turned_about(draw, sum_of_kind(prime, drawn_names(draw, prime, 5)))
                found = mixed(web=web, four=four)
                first, second = web.tables
                a, b, c, d = four
                self.assertEqual(found.tables, (plus(scaled(first, a), scaled(second, b)),
                                                plus(scaled(first, c), scaled(second, d))))
                kind = kind_of_pair(web)
                self.assertEqual(mixed_kind(prime=prime, kind=kind, four=four), kind_of_pair(found))
                # By four, then by other, is by their product.
                other = drawn_four(draw, prime)
                e, f, g, h = other
                product = (e * a + f * c, e * b + f * d, g * a + h * c, g * b + h * d)
                self.assertEqual(mixed(found, other), mixed(web, product))
                self.assertEqual(mixed_kind(prime, mixed_kind(prime, kind, four), other),
                                 mixed_kind(prime, kind, product))
                self.assertEqual(mixed_kind(prime, kind, (1, 0, 0, 1)), kind)

    def test_far_and_back(self):
        self.assertEqual(mixed_kind(5, (("turn", (3, 1), 2),), (2, -1, 0, 1)), (("far", 2),))
        self.assertEqual(mixed_kind(5, (("far", 2),), (1, 2, 0, 1)), (("turn", (2, 1), 2),))
        self.assertEqual(mixed_kind(5, (("far", 2),), (1, 5, 3, 1)), (("far", 2),))
        self.assertEqual(mixed_kind(5, (("far", 1), ("turn", (0, 1), 3)), (0, 1, 1, 0)),
                         (("far", 3), ("turn", (0, 1), 1)))
        self.assertEqual(mixed_kind(2, (("down", 2), ("up", 3)), (0, 1, 1, 1)), (("down", 2), ("up", 3)))
        for four in ((0, 1, 1, 0), (1, 1, 0, 1), (1, 0, 1, 1)):
            self.assertEqual(mixed_kind(2, (("turn", (1, 1, 1), 2),), four), (("turn", (1, 1, 1), 2),))
        # Roots r go to (c + d * r) / (a + b * r).
        for root in range(7):
            a, b, c, d = 2, 3, 1, 4
            told = ("far", 1)
            if (a + b * root) % 7:
                told = ("turn", (-(c + d * root) * pow(a + b * root, -1, 7) % 7, 1), 1)
            self.assertEqual(mixed_kind(7, (("turn", (-root % 7, 1), 1),), (a, b, c, d)), (told,))

    def test_turned(self):
        draw = drawn(1235)
        for prime in BARE:
            for _ in range(12):
                kind = drawn_names(draw, prime, 5)
                web = turned_across(sum_of_kind(prime, kind))
                found = turned_kind(prime=prime, kind=kind)
                self.assertEqual(found, kind_of_pair(web))
                self.assertEqual(turned_kind(prime, found), kind)
        self.assertEqual(turned_kind(2, (("down", 1), ("far", 2), ("up", 0))), (("down", 0), ("far", 2), ("up", 1)))

    def test_errors_in_their_order(self):
        web = Web(PAIR, 5, (1, 1), [plain(5, 1), Table(5, 1, 1, [[3]])])
        for four in (None, [1, 0, 0, 1], (1, 0, 0), (1, 0, 0, 1, 0), (1, 0, 0, True), (1.0, 0, 0, 1), (0, 0, 0, 0),
                     (1, 2, 3, 6), (1, 0, 0, 5), (2, 1, 1, 3), "1001"):
            for wrong in NO_PAIRS:
                check_order(self, mixed, {"web": web, "four": (1, 2, 3, 4)}, [("web", wrong, ("NotPair",)),
                                                                              ("four", four, ("BadFour",))])
            for prime in WRONG_PRIMES:
                for kind, at in WRONG_KINDS:
                    check_order(self, mixed_kind, {"prime": 5, "kind": (("up", 1),), "four": (1, 2, 3, 4)}, [
                        ("prime", prime, ("BadPrime",)), ("kind", kind, ("BadPairKind", at)),
                        ("four", four, ("BadFour",))])
        self.assertEqual(least_sizes(5, ("far", 2)), (2, 2))


if __name__ == "__main__":
    unittest.main()
