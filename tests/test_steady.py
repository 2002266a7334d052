"""Points [102] and [106] (root_prices): prices, slopes, steady roots."""

import unittest
from fractions import Fraction

from boughwebs.leasts import least_web
from boughwebs.parts import all_parts, part_row
from boughwebs.roots import pair_form, roots
from boughwebs.steady import root_prices, slope, steady_roots, worth
from tests.drawn import (CLASH, GOOD, NETS, ONE, PAIR, RING, STAR, STEP, STRAIGHT, check_order, drawn, error_of,
                         good_nets)

WRONG_PRICES = [None, [1, 1], (1,), (1, 1, 1), (100, 0), (0, -100), (True, 0), (1.0, 0), "11", {}, 3]
WRONG_WEIGHTS = [[1, 1], (1,), (0, 1), (10, 1), (True, 1), (1, 1.0), "11", 1, ()]
WRONG_ROWS = [None, [1, 1], (1,), (True, 1), (1, 1.0), "11", 3]


def fraction(prices, weights, row):
    weights = weights or (1,) * len(row)
    return Fraction(sum(a * b for a, b in zip(prices, row)), sum(a * b for a, b in zip(weights, row)))


def drawn_prices(draw, net, most=3):
    return tuple(draw.randrange(-most, most + 1) for _ in range(net.places))


def drawn_weights(draw, net):
    return draw.choice((None, tuple(draw.randrange(1, 4) for _ in range(net.places))))


def steady_by_fact(net, prices, weights):
    """The steady roots as the fact tells them, ascending by sum."""
    found = []
    for root in roots(net):
        own = fraction(prices, weights, root)
        dearer = [other for other, _ in found if sum(other) < sum(root) and pair_form(net, other, root) > 0]
        if all(fraction(prices, weights, other) <= own for other in dearer):
            found.append((root, all(fraction(prices, weights, other) < own for other in dearer)))
    return sorted(found)


class WorthTest(unittest.TestCase):

    def test_worth(self):
        draw = drawn(951)
        for net in NETS:
            prices = drawn_prices(draw, net, 99)
            row = tuple(draw.randrange(-5, 6) for _ in range(net.places))
            self.assertEqual(worth(net=net, prices=prices, row=row), sum(a * b for a, b in zip(prices, row)))
        self.assertEqual(worth(STEP, (99, -99), (10**30, 1)), 99 * 10**30 - 99)

    def test_slope(self):
        draw = drawn(952)
        for net in NETS:
            for _ in range(10):
                prices, weights = drawn_prices(draw, net, 99), drawn_weights(draw, net)
                row = tuple(draw.randrange(4) for _ in range(net.places))
                if any(row):
                    found = slope(net=net, prices=prices, weights=weights, row=row)
                    told = fraction(prices, weights, row)
                    self.assertIs(type(found), tuple)
                    self.assertEqual(found, (told.numerator, told.denominator))
        self.assertEqual(slope(STEP, (0, 0), None, (2, 2)), (0, 1))
        self.assertEqual(slope(STEP, (-2, 0), (3, 1), (2, 2)), (-1, 2))
        self.assertEqual(slope(STEP, (99, 99), (9, 9), (1, 0)), (11, 1))

    def test_errors_in_their_order(self):
        for prices in WRONG_PRICES:
            check_order(self, worth, {"net": STEP, "prices": (1, 2), "row": (1, -1)}, [
                ("net", None, ("BadNet", None)), ("prices", prices, ("BadPrices",)), ("row", (1, True), ("BadRow",))])
        for wrong in WRONG_ROWS:
            self.assertEqual(error_of(worth, STEP, (1, 2), wrong), ("BadRow",))
        good = {"net": STEP, "prices": (1, 2), "weights": (1, 9), "row": (1, 1)}
        for weights in WRONG_WEIGHTS:
            for row in WRONG_ROWS + [(0, 0), (1, -1), (-1, 2)]:
                check_order(self, slope, good, [
                    ("net", 3, ("BadNet", None)), ("prices", (1, 100), ("BadPrices",)),
                    ("weights", weights, ("BadWeights",)), ("row", row, ("BadRow",))])
        self.assertIsNone(error_of(slope, STEP, (-99, 99), None, (1, 0)))


class SteadyRootsTest(unittest.TestCase):

    def test_by_the_fact(self):
        draw = drawn(953)
        for net in good_nets(954, 6) + GOOD:
            for _ in range(6):
                prices, weights = drawn_prices(draw, net), drawn_weights(draw, net)
                found = steady_roots(net=net, prices=prices, weights=weights)
                self.assertIs(type(found), list)
                self.assertEqual(found, steady_by_fact(net, prices, weights))
                self.assertTrue(all(type(pair) is tuple and type(pair[1]) is bool for pair in found))
                # The least slope of a point, and the greatest, are always steady.
                self.assertEqual([root for root, _ in found if sum(root) == 1],
                                 sorted(root for root in roots(net) if sum(root) == 1))

    def test_by_all_parts(self):
        draw = drawn(955)
        for net in (ONE, STEP, STRAIGHT, CLASH, STAR):
            for prime in (2, 3):
                for _ in range(4):
                    prices, weights = drawn_prices(draw, net, 2), drawn_weights(draw, net)
                    told = []
                    for root in roots(net):
                        web = least_web(net, prime, root)
                        own = fraction(prices, weights, root)
                        rows = [part_row(web, part) for part in all_parts(web)][1:-1]
                        slopes = [fraction(prices, weights, row) for row in rows]
                        if all(some <= own for some in slopes):
                            told.append((root, all(some < own for some in slopes)))
                    self.assertEqual(steady_roots(net, prices, weights), sorted(told))

    def test_by_hand(self):
        self.assertEqual(steady_roots(STEP, (1, -1), None), [((0, 1), True), ((1, 0), True), ((1, 1), True)])
        self.assertEqual(steady_roots(STEP, (-1, 1), None), [((0, 1), True), ((1, 0), True)])
        self.assertEqual(steady_roots(STEP, (0, 0), (2, 3)), [((0, 1), True), ((1, 0), True), ((1, 1), False)])

    def test_errors_in_their_order(self):
        for prices in WRONG_PRICES:
            for weights in WRONG_WEIGHTS:
                check_order(self, steady_roots, {"net": STEP, "prices": (1, 2), "weights": None}, [
                    ("net", None, ("BadNet", None)), ("net", PAIR, ("NotGood",)), ("prices", prices, ("BadPrices",)),
                    ("weights", weights, ("BadWeights",))])


class RootPricesTest(unittest.TestCase):

    def test_root_prices(self):
        for net in GOOD + good_nets(956):
            for root in roots(net):
                told = tuple(pair_form(net, root, tuple(int(k == place) for k in range(net.places)))
                             for place in range(net.places))
                self.assertEqual(root_prices(net=net, root=root), told)
        self.assertEqual(root_prices(STEP, (1, 0)), (1, -1))

    def test_errors_in_their_order(self):
        for wrong in WRONG_ROWS + [(0, 0), (1, 2), (-1, 0)]:
            check_order(self, root_prices, {"net": STEP, "root": (1, 1)}, [
                ("net", None, ("BadNet", None)), ("net", RING, ("NotGood",)), ("root", wrong, ("BadRow",))])


if __name__ == "__main__":
    unittest.main()
