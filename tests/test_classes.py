"""Point [144]: how many webs of a row there are, alike ones counted once, and how many thin ones."""

import unittest
from itertools import product

from boughwebs.classes import class_tally, thin_tally
from boughwebs.kinds import kinds_of
from boughwebs.nets import Net
from boughwebs.paircounts import kinds_of_sizes
from boughwebs.roots import form, mirrored_row, shape
from boughwebs.solving import is_whole
from boughwebs.tallies import is_tally, tally_at
from boughwebs.webs import changed
from tests.drawn import (ARMS_SIX, CLASH, FIVE, GOOD, NETS, ONE, PAIR, RING, SQUARE, STAR, STEP, TRIPLE, all_maps,
                         all_tables, arms_net, check_order, drawn, drawn_net, error_of, small_rows)
from tests.test_countings import all_webs, arrow_sum
from tests.test_partcounts import small_rows_of
from tests.test_rounds import ROUNDS

WRONG_ROWS = [None, 3, (1,), (1, 1, 1), [1, 1], (0, 0), (9, 0), (4, 5), (1, -1), (9, -1), (True, 1), (1, 1.0), ()]


def numbers_of(web):
    return tuple(number for table in web.tables for line in table.lines for number in line)


def classes_of(net, prime, row):
    """One web of each class of alike ones, found by all changes of coordinates."""
    rooms = [[table for table in all_tables(prime, size, size) if is_whole(table)] for size in row]
    turns = [list(coordinates) for coordinates in product(*rooms)]
    seen, found = set(), []
    for web in all_webs(net, prime, row):
        if numbers_of(web) not in seen:
            found.append(web)
            seen |= {numbers_of(changed(web, turn)) for turn in turns}
    return found


def fades(mapping):
    """Whether a map from a web to itself comes to 0, its Tables being done often enough."""
    for table in mapping:
        lines = [list(line) for line in table.lines]
        for _ in range(table.tall):
            lines = [[sum(a * line[k] for a, line in zip(row, table.lines)) % table.prime
                      for k in range(table.wide)] for row in lines]
        if any(number for line in lines for number in line):
            return False
    return True


def is_thin(web):
    """Whether each map from the web to itself is a number and a map that fades."""
    prime = web.prime
    for mapping in all_maps(web, web):
        shifted = []
        for number in range(prime):
            some = [type(table)(prime, table.tall, table.wide, [
                [a - number * (i == j) for j, a in enumerate(line)] for i, line in enumerate(table.lines)])
                for table in mapping]
            shifted.append(fades(some))
        if not any(shifted):
            return False
    return any(web.sizes)


def allowed(net, row):
    return 1 <= sum(row) <= 8 and arrow_sum(net, row, row) <= 24


class ClassTest(unittest.TestCase):

    def test_against_all_webs(self):
        for prime, net, rows in ((2, PAIR, [(1, 1), (1, 2), (2, 1), (2, 2), (1, 3)]), (2, TRIPLE, [(1, 1), (1, 2), (2, 1)]),
                                 (3, PAIR, [(1, 1), (1, 2)]), (3, TRIPLE, [(1, 1)]), (2, STEP, [(2, 2), (1, 3)]),
                                 (2, RING, [(1, 1, 1), (1, 2, 1), (2, 1, 1)]), (3, RING, [(1, 1, 1)]),
                                 (2, CLASH, [(1, 2, 1), (2, 1, 1)]), (2, FIVE, [(1, 1, 1, 1, 1), (1, 1, 1, 1, 2)]),
                                 (2, SQUARE, [(1, 1, 1, 1)]), (2, ONE, [(2,), (1,)])):
            for row in rows:
                found = classes_of(net, prime, row)
                self.assertEqual(tally_at(class_tally(net=net, row=row), prime), len(found))
                thin = [web for web in found if is_thin(web)]
                self.assertEqual(tally_at(thin_tally(net=net, row=row), prime), len(thin))

    def test_good_nets(self):
        for net in GOOD + [arms_net((1, 2, 3)), arms_net((1, 2, 4))]:
            for row in small_rows(net, 3 if net.places < 4 else 1) + [(2,) * net.places, (8,) + (0,) * (net.places - 1)]:
                if allowed(net, row):
                    self.assertEqual(thin_tally(net, row), (1,) if form(net, row) == 1 else ())
                    self.assertEqual(class_tally(net, row), (len(kinds_of(net, row)),))

    def test_round_nets(self):
        for net in ROUNDS:
            ring = shape(net)[1]
            rows = [row for row in small_rows_of(tuple(min(2, number + 1) for number in ring)) if allowed(net, row)]
            rows = rows[::1 + len(rows) // 25] + [tuple(k * number for number in ring) for k in (1, 2, 3)]
            for row in rows:
                if allowed(net, row):
                    many = [k for k in range(1, 9) if row == tuple(k * number for number in ring)]
                    told = (net.places - 1, 1) if many else (1,) if form(net, row) == 1 else ()
                    self.assertEqual(thin_tally(net, row), told)

    def test_pairs_of_tables(self):
        for sizes in product(range(5), repeat=2):
            if allowed(PAIR, sizes):
                for prime in (2, 3, 5):
                    if prime ** min(sizes) <= 100:
                        self.assertEqual(tally_at(class_tally(PAIR, sizes), prime), len(kinds_of_sizes(prime, sizes)))

    def test_turned_arrows_and_mirrored_rows(self):
        draw = drawn(1441)
        seen = 0
        for net in NETS + [drawn_net(draw, 4, 6), drawn_net(draw, 5, 7), Net(2, [(0, 1)] * 5)]:
            for _ in range(12):
                row = tuple(draw.randrange(3) for _ in range(net.places))
                if not allowed(net, row):
                    continue
                thin, classes = thin_tally(net, row), class_tally(net, row)
                self.assertTrue(is_tally(thin) and is_tally(classes))
                self.assertGreaterEqual(min(thin + classes), 0)
                if thin:
                    self.assertEqual((thin[-1], len(thin)), (1, 2 - form(net, row)))
                heights = draw.sample(range(net.places), net.places)
                turned = Net(net.places, [(a, b) if heights[a] < heights[b] else (b, a) for a, b in net.arrows])
                self.assertEqual((thin_tally(turned, row), class_tally(turned, row)), (thin, classes))
                for place in range(net.places):
                    if row == tuple(int(k == place) for k in range(net.places)):
                        continue
                    mirrored = mirrored_row(net, place, row)
                    if min(mirrored) < 0:
                        self.assertEqual(thin, ())
                    elif allowed(net, mirrored):
                        self.assertEqual(thin_tally(net, mirrored), thin)
                        seen += 1
        self.assertGreater(seen, 60)

    def test_classes_are_sums_of_thin_ones(self):
        draw = drawn(1442)
        for net in (PAIR, TRIPLE, RING, FIVE, STAR):
            for _ in range(5):
                row = tuple(draw.randrange(3) for _ in range(net.places))
                if not allowed(net, row):
                    continue
                # Ways to write the rows as sums, colour by colour: each colour comes any number of times.
                ways = {(0,) * net.places: {0: 1}}
                for some in small_rows_of(row):
                    thin = thin_tally(net, some) if any(some) else ()
                    for k, many in enumerate(thin):
                        for _ in range(many):
                            for goal in small_rows_of(row):
                                ahead = tuple(a - b for a, b in zip(goal, some))
                                if min(ahead) >= 0:
                                    told = ways.setdefault(goal, {})
                                    for power, often in list(ways.get(ahead, {}).items()):
                                        told[power + k] = told.get(power + k, 0) + often
                found = class_tally(net, row)
                self.assertEqual({k: many for k, many in enumerate(found) if many},
                                 {k: many for k, many in ways[row].items() if many})

    def test_bounds(self):
        self.assertEqual(class_tally(ONE, (8,)), (1,))
        self.assertEqual(thin_tally(Net(2, [(0, 1)] * 6), (2, 2))[-1], 1)
        self.assertEqual(len(thin_tally(Net(2, [(0, 1)] * 6), (2, 2))), 18)
        self.assertEqual(len(class_tally(Net(2, [(0, 1)] * 12), (1, 2))), 21)
        for work in (thin_tally, class_tally):
            # N is 24, then 25.
            self.assertIsNone(error_of(work, Net(2, [(0, 1)] * 4), (2, 3)))
            self.assertIsNone(error_of(work, Net(3, [(0, 1)] * 3 + [(1, 2)] * 3), (2, 2, 2)))
            self.assertEqual(error_of(work, Net(3, [(0, 1)] * 4 + [(1, 2)]), (3, 2, 0)), None)
            self.assertEqual(error_of(work, Net(2, [(0, 1)] * 5), (1, 5)), ("TooMany", 24))
            self.assertEqual(error_of(work, Net(2, [(0, 1)] * 7), (2, 2)), ("TooMany", 24))

    def test_errors_in_their_order(self):
        for work in (thin_tally, class_tally):
            for row in WRONG_ROWS:
                check_order(self, work, {"net": PAIR, "row": (2, 2)}, [
                    ("net", None, ("BadNet", None)), ("row", row, ("BadRow",))])
        self.assertEqual(error_of(thin_tally, ARMS_SIX, (2, 2, 2, 2, 1, 0)), ("BadRow",))

    def test_example(self):
        self.assertEqual((thin_tally(PAIR, (1, 1)), class_tally(PAIR, (1, 1))), ((1, 1), (2, 1)))


if __name__ == "__main__":
    unittest.main()
