"""Point [143]: how many webs of a row are steady, and how many have ladders of given rows, for all primes at once."""

import unittest
from itertools import product

from boughwebs.countings import kind_tally, web_tally
from boughwebs.kinds import kinds_of
from boughwebs.ladders import is_steady, steps_of
from boughwebs.nets import Net
from boughwebs.parts import all_parts, part_row
from boughwebs.splits import whole_of
from boughwebs.steadycounts import ladder_tally, steady_tally
from boughwebs.tallies import choices_tally, is_tally, tally_at, tally_product, tally_sum
from tests.drawn import (CLASH, FIVE, GOOD, ONE, PAIR, RING, SPREAD, SQUARE, STAR, STEP, STRAIGHT, TRIPLE, check_order,
                         drawn, error_of, small_rows)
from tests.test_countings import all_webs, arrow_sum

WRONG_ROWS = [None, 3, (1,), (1, 1, 1), [1, 1], (13, 0), (0, 13), (1, -1), (True, 1), (1, 1.0), (0, 0), ()]
WRONG_PRICES = [None, (1,), [1, 1], (100, 0), (0, -100), (True, 0), (1, 1, 1), (1.0, 1)]
WRONG_WEIGHTS = [(1,), [1, 1], (0, 1), (1, 10), (True, 1), 3, (1, 1, 1)]


def drawn_prices(draw, net):
    prices = tuple(draw.randrange(-3, 4) for _ in range(net.places))
    return prices, draw.choice((None, tuple(draw.randrange(1, 4) for _ in range(net.places))))


def slope(prices, weights, row):
    """Worth and weight, to be compared crosswise."""
    weights = weights or (1,) * len(row)
    return sum(a * b for a, b in zip(prices, row)), sum(a * b for a, b in zip(weights, row))


def is_above(one, other):
    return one[0] * other[1] > other[0] * one[1]


def falling_lists(prices, weights, row, below=None):
    """All lists of rows that are not all 0, with falling slopes, that sum up to the row."""
    if not any(row):
        yield []
        return
    for first in product(*[range(number + 1) for number in row]):
        own = slope(prices, weights, first)
        if any(first) and (below is None or is_above(below, own)):
            left = tuple(a - b for a, b in zip(row, first))
            for rest in falling_lists(prices, weights, left, own):
                yield [first] + rest


def ladder_plainly(web, prices, weights):
    """The rows of the steps of a web's ladder, on any net: again and again the part of the greatest slope."""
    parts = [part_row(web, part) for part in all_parts(web)]
    found, ahead = [], (0,) * len(web.sizes)
    while ahead != web.sizes:
        # Parts that hold the part so far: of greatest slope they are told by their rows alone.
        best = None
        for row in parts:
            more = tuple(a - b for a, b in zip(row, ahead))
            if any(more) and min(more) >= 0:
                own = slope(prices, weights, more)
                if best is None or is_above(own, best[0]) or (not is_above(best[0], own) and sum(more) > sum(best[1])):
                    best = (own, more)
        found.append(best[1])
        ahead = tuple(a + b for a, b in zip(ahead, best[1]))
    return found


class SteadyTallyTest(unittest.TestCase):

    def test_against_ladders_on_good_nets(self):
        draw = drawn(1431)
        for net, most in ((STEP, 3), (CLASH, 2), (STRAIGHT, 2), (SPREAD, 2)):
            for row in small_rows(net, most):
                if not any(row) or arrow_sum(net, row, row) > 6:
                    continue
                prices, weights = drawn_prices(draw, net)
                seen = {}
                for web in all_webs(net, 2, row):
                    steps = tuple(some for some, _ in steps_of(web, prices, weights))
                    seen[steps] = seen.get(steps, 0) + 1
                for steps, many in seen.items():
                    found = ladder_tally(net=net, prices=prices, weights=weights, rows=list(steps))
                    self.assertEqual(tally_at(found, 2), many)
                    self.assertEqual(ladder_tally(net, prices, weights, steps), found)
                found = steady_tally(net=net, prices=prices, weights=weights, row=row)
                self.assertEqual(tally_at(found, 2), seen.get((row,), 0))
                steady = [kind for kind in kinds_of(net, row) if is_steady(whole_of(net, 2, kind), prices, weights)]
                self.assertEqual(found, tally_sum([kind_tally(net, kind) for kind in steady]))

    def test_against_all_parts_on_other_nets(self):
        draw = drawn(1432)
        for prime, net, row in ((2, PAIR, (1, 1)), (3, PAIR, (1, 1)), (2, PAIR, (1, 2)), (2, PAIR, (2, 1)),
                                (2, PAIR, (2, 2)), (2, TRIPLE, (1, 2)), (2, RING, (1, 1, 1)), (2, RING, (1, 2, 1)),
                                (3, RING, (1, 1, 1)), (2, FIVE, (1, 1, 1, 1, 1)), (2, SQUARE, (1, 1, 1, 1))):
            for _ in range(3):
                prices, weights = drawn_prices(draw, net)
                seen = {}
                for web in all_webs(net, prime, row):
                    steps = tuple(ladder_plainly(web, prices, weights))
                    seen[steps] = seen.get(steps, 0) + 1
                for steps in falling_lists(prices, weights, row):
                    found = ladder_tally(net, prices, weights, steps)
                    self.assertEqual(tally_at(found, prime), seen.get(tuple(steps), 0), (net.arrows, steps))

    def test_ladders_by_the_product(self):
        draw = drawn(1433)
        for net in (STEP, CLASH, PAIR, TRIPLE, RING, FIVE, STAR):
            for _ in range(6):
                prices, weights = drawn_prices(draw, net)
                row = tuple(draw.randrange(3 if net.places < 4 else 2) for _ in range(net.places))
                if not any(row):
                    continue
                lists = list(falling_lists(prices, weights, row))
                for rows in lists:
                    told, ahead = [], (0,) * net.places
                    for some in rows:
                        told.append(steady_tally(net, prices, weights, some))
                        total = tuple(a + b for a, b in zip(ahead, some))
                        told += [choices_tally(a, b) for a, b in zip(total, some)]
                        told.append((0,) * arrow_sum(net, some, ahead) + (1,))
                        ahead = total
                    found = ladder_tally(net, prices, weights, rows)
                    self.assertTrue(is_tally(found))
                    self.assertEqual(found, tally_product(told))
                total = tally_sum([ladder_tally(net, prices, weights, rows) for rows in lists])
                self.assertEqual(total, web_tally(net, row))

    def test_weights_of_one(self):
        for net in GOOD[:5]:
            row = (1,) * net.places
            prices = tuple(range(-1, net.places - 1))
            told = steady_tally(net, prices, None, row)
            self.assertEqual(steady_tally(net, prices, (1,) * net.places, row), told)
            self.assertEqual(steady_tally(net, prices, (3,) * net.places, row), told)
            self.assertEqual(ladder_tally(net, prices, None, [row]), told)
        for net in (ONE, STEP, PAIR):
            for number in (1, 5, 12):
                row = (number,) + (0,) * (net.places - 1)
                self.assertEqual(steady_tally(net, (-7,) * net.places, None, row), (1,))

    def test_great_rows(self):
        # Without prices all are steady.
        for net, row in ((PAIR, (12, 12)), (RING, (6, 6, 7)), (SQUARE, (4, 4, 3, 3)), (FIVE, (4, 3, 3, 1, 1))):
            self.assertEqual(steady_tally(net, (0,) * net.places, None, row), web_tally(net, row))
            prices = tuple(range(net.places, 0, -1))
            found = steady_tally(net, prices, None, row)
            self.assertTrue(is_tally(found))
            self.assertTrue(all(0 <= tally_at(found, prime) <= tally_at(web_tally(net, row), prime)
                                for prime in (2, 3, 97)))
        # Maps lead from the first room alone: all rows below are those of parts if it is dear.
        found = steady_tally(Net(2, [(0, 1)] * 3), (1, 0), None, (12, 12))
        self.assertEqual((len(found), found[-1]), (433, 1))

    def test_errors_in_their_order(self):
        rows = [(0, 1), (1, 0)]
        great = [(1, 0), (0, 1)]
        for prices in WRONG_PRICES:
            for weights in WRONG_WEIGHTS:
                steps = [("net", None, ("BadNet", None)), ("prices", prices, ("BadPrices",)),
                         ("weights", weights, ("BadWeights",))]
                for row in WRONG_ROWS:
                    check_order(self, steady_tally, {"net": PAIR, "prices": (-1, 1), "weights": None, "row": (1, 1)},
                                steps + [("row", row, ("BadRow",))])
                for wrong in (None, [], (), 3, [rows[0], None], great, [rows[0], rows[0]], [(0, 0)], [(0, 1), (0, 0)],
                              [(0, 12), (13, 0)], [(0, 7), (1, 6)], (0, 1), [[0, 1], [1, 0]], {}):
                    check_order(self, ladder_tally, {"net": PAIR, "prices": (-1, 1), "weights": None, "rows": rows},
                                steps + [("rows", wrong, ("BadRow",))])
        self.assertIsNone(error_of(steady_tally, PAIR, (-1, 1), None, (12, 12)))
        self.assertEqual(error_of(ladder_tally, PAIR, (0, 0), None, rows), ("BadRow",))
        self.assertEqual(ladder_tally(PAIR, (-1, 1), None, [(0, 12), (12, 0)]), (0,) * 288 + (1,))
        self.assertEqual(error_of(ladder_tally, PAIR, (-1, 1), None, [(0, 12), (1, 1), (12, 0)]), ("BadRow",))
        self.assertEqual(error_of(steady_tally, RING, (1, 0, 0), None, (7, 7, 6)), ("TooMany", 400))
        self.assertIsNone(error_of(steady_tally, RING, (1, 0, 0), None, (7, 6, 6)))
        self.assertEqual(error_of(ladder_tally, RING, (1, 0, 0), None, [(7, 0, 0), (0, 7, 6)]), ("TooMany", 400))
        self.assertEqual(error_of(steady_tally, STAR, (1, 0, 0, 0), None, (4, 4, 3, 3)), None)
        self.assertEqual(error_of(steady_tally, STAR, (1, 0, 0, 0), None, (4, 4, 4, 3)), ("TooMany", 400))

    def test_example(self):
        self.assertEqual(steady_tally(STEP, (1, -1), None, (1, 1)), (-1, 1))


if __name__ == "__main__":
    unittest.main()
