"""Point [134]: round nets, the webs of their family, and how many unlike webs any net has."""

import unittest
from itertools import product

from boughwebs.classes import class_tally
from boughwebs.leasts import least_web
from boughwebs.maps import count_maps, is_alike, maps
from boughwebs.nets import Net, sinks, sources
from boughwebs.roots import highest, is_shape, pair_form, shape
from boughwebs.rounds import defect, family_place, family_point, family_web, points, rest_net, unlike_webs
from boughwebs.solving import count_whole
from boughwebs.splits import is_least
from boughwebs.tables import Table, plain
from boughwebs.tallies import tally_at
from boughwebs.webs import Web, bare
from tests.drawn import (FIVE, GOOD, NETS, ONE, PAIR, RING, SQUARE, STEP, TRIPLE, all_tables, arms_net, check_order,
                         drawn, error_of, renamed, turned_about)
from tests.test_polys import WRONG_PRIMES

ROUNDS = [PAIR, RING, SQUARE, FIVE, arms_net((1, 1, 1, 1)), arms_net((2, 2, 2)), arms_net((1, 3, 3)),
          Net(6, [(0, 2), (1, 2), (2, 3), (4, 3), (5, 3)]), Net(8, [(k, k + 1) for k in range(7)] + [(0, 7)]),
          Net(8, [(0, 2), (1, 2), (2, 3), (4, 3), (4, 5), (5, 6), (5, 7)])]
NOT_ROUND = GOOD + [TRIPLE, Net(3, [(0, 1), (0, 1), (1, 2)]), arms_net((1, 2, 4)), arms_net((2, 2, 3))]


def rounds(seed, many=4):
    """Round nets of all sorts, in several namings and directions."""
    draw = drawn(seed)
    return ROUNDS + [renamed(draw, net) for net in ROUNDS for _ in range(many)]


def all_points(prime):
    return [(0, 1)] + [(1, a) for a in range(prime)]


class RoundTest(unittest.TestCase):

    def test_family_place_and_rest(self):
        for net in rounds(1341):
            name, row = shape(net)
            self.assertEqual(name, "round")
            place = family_place(net=net)
            told = [k for k in range(net.places) if row[k] == 1 and (k in sinks(net) or k in sources(net))]
            self.assertEqual(place, told[0])
            others = [k for k in range(net.places) if k != place]
            arrows = [arrow for arrow in net.arrows if place not in arrow]
            rest = rest_net(net=net)
            self.assertEqual(rest, Net(len(others), [(others.index(a), others.index(b)) for a, b in arrows]))
            self.assertIn(shape(rest)[0], ("line", "fork", "arms"))
            self.assertEqual(highest(rest), tuple(row[k] for k in others))

    def test_defect(self):
        draw = drawn(1342)
        for net in rounds(1343, 2):
            row = shape(net)[1]
            for _ in range(5):
                other = tuple(draw.randrange(-9, 10) for _ in range(net.places))
                self.assertEqual(defect(net=net, row=other), pair_form(net, row, other))
            self.assertEqual(defect(net, row), 0)

    def test_points(self):
        for prime in (2, 3, 97):
            self.assertEqual(points(prime=prime), all_points(prime))

    def test_errors_in_their_order(self):
        for net in NOT_ROUND:
            self.assertFalse(is_shape(net, ("round", shape(net)[1])))
            for work in (family_place, rest_net, lambda some: defect(some, None), lambda some: family_web(some, 4, 0),
                         lambda some: family_point(bare(some, 2, (1,) * some.places))):
                self.assertEqual(error_of(work, net), ("NotRound",))
        for wrong in (None, (1, 1), (1, 1, 1, 1), [1, 1, 1], (1, True, 1), (1, 1.0, 1)):
            check_order(self, defect, {"net": RING, "row": (1, 2, 1)}, [
                ("net", 3, ("BadNet", None)), ("net", STEP, ("NotRound",)), ("row", wrong, ("BadRow",))])
        for prime in WRONG_PRIMES:
            self.assertEqual(error_of(points, prime), ("BadPrime",))
            for point in (None, (0, 0), (0, 2), (1, 5), (2, 1), [1, 1], (1,), (1, 1, 1), (1, -1), (True, 1), (1, 1.0)):
                check_order(self, family_web, {"net": RING, "prime": 5, "point": (1, 1)}, [
                    ("net", None, ("BadNet", None)), ("net", ONE, ("NotRound",)), ("prime", prime, ("BadPrime",)),
                    ("point", point, ("BadPoint",))])
        for work in (family_place, rest_net):
            self.assertEqual(error_of(work, None), ("BadNet", None))


class FamilyTest(unittest.TestCase):

    def test_webs_by_the_definition(self):
        for net in rounds(1344):
            place, rest, row = family_place(net), rest_net(net), shape(net)[1]
            for prime in (2, 3, 5):
                told = least_web(rest, prime, highest(rest)).tables
                for point in all_points(prime):
                    web = family_web(net=net, prime=prime, point=point)
                    self.assertEqual((web.net, web.prime, web.sizes), (net, prime, row))
                    here = [table for table, arrow in zip(web.tables, net.arrows) if place in arrow]
                    others = [table for table, arrow in zip(web.tables, net.arrows) if place not in arrow]
                    self.assertEqual(tuple(others), told)
                    numbers = [number for table in here for line in table.lines for number in line]
                    self.assertEqual(tuple(numbers), point)

    def test_maps_between_them(self):
        for net in rounds(1345, 2):
            for prime in (2, 3):
                webs = [family_web(net, prime, point) for point in all_points(prime)]
                for at, one in enumerate(webs):
                    for k, other in enumerate(webs):
                        if sum(size * size for size in one.sizes) <= 300:
                            self.assertEqual(count_maps(one, other), 1 if at == k else 0)
                if net.places < 5:
                    self.assertTrue(all(is_least(web) for web in webs))

    def test_points_of_webs(self):
        draw = drawn(1346)
        for net in rounds(1347, 2):
            row = shape(net)[1]
            for prime in (2, 3, 97):
                for point in draw.sample(all_points(prime), 3):
                    web = turned_about(draw, family_web(net, prime, point))
                    self.assertEqual(family_point(web=web), point)
                self.assertIsNone(family_point(bare(net, prime, row)))
                # Two numbers 0 along the arrows of the family place.
                web = family_web(net, prime, (1, 1))
                place = family_place(net)
                tables = [Table(prime, table.tall, table.wide, [[0] * table.wide] * table.tall) if place in arrow
                          else table for table, arrow in zip(web.tables, net.arrows)]
                self.assertIsNone(family_point(Web(net, prime, row, tables)))

    def test_all_small_webs(self):
        for net, prime in ((PAIR, 3), (RING, 2), (RING, 3), (SQUARE, 2), (arms_net((1, 1, 1, 1)), 2)):
            row = shape(net)[1]
            family = {point: family_web(net, prime, point) for point in all_points(prime)}
            spaces = [list(all_tables(prime, row[head], row[tail])) for tail, head in net.arrows]
            single = 0
            for tables in product(*spaces):
                web = Web(net, prime, row, tables)
                if count_maps(web, web) != 1:
                    self.assertIsNone(family_point(web))
                    continue
                single += 1
                told = [point for point, some in family.items()
                        if any(is_alike(some, web, mapping) for mapping in maps(some, web))]
                self.assertEqual(family_point(web), told[0] if told else None)
            # Each is alike to as many webs as there are coordinates, but for multiples of all.
            turns = 1
            for size in row:
                turns *= count_whole(prime, size)
            self.assertEqual(single, (prime + net.places - 1) * turns // (prime - 1))

    def test_errors_in_their_order(self):
        for wrong in (None, 3, RING, plain(3, 1), "web"):
            self.assertEqual(error_of(family_point, wrong), ("BadWeb", None))
        for net in ROUNDS:
            row = shape(net)[1]
            for sizes in (tuple(2 * size for size in row), row[:-1] + (row[-1] + 1,), (0,) * net.places):
                self.assertEqual(error_of(family_point, bare(net, 2, sizes)), ("NotSo",))
        self.assertEqual(error_of(family_point, bare(STEP, 2, (0, 0))), ("NotRound",))


class UnlikeTest(unittest.TestCase):

    def test_by_the_formula(self):
        draw = drawn(1348)
        for net in NETS:
            for _ in range(12):
                row = tuple(draw.randrange(7) for _ in range(net.places))
                prime = draw.choice((2, 3, 5, 97))
                if not any(row):
                    continue
                above, below = prime - 1, 1
                for tail, head in net.arrows:
                    above *= prime ** (row[tail] * row[head])
                for number in row:
                    for k in range(number):
                        below *= prime ** number - prime ** k
                found = unlike_webs(net=net, prime=prime, row=row)
                self.assertTrue((found - 1) * below < above <= found * below)

    def test_there_are_at_least_so_many(self):
        for net in (PAIR, TRIPLE, RING, STEP, FIVE):
            for prime in (2, 3):
                for row in product(range(3), repeat=net.places):
                    if 1 <= sum(row) <= 6 and sum(row[a] * row[b] for a, b in net.arrows) <= 24:
                        self.assertLessEqual(unlike_webs(net, prime, row), tally_at(class_tally(net, row), prime))
        self.assertEqual(unlike_webs(PAIR, 2, (1, 1)), 4)
        self.assertEqual(unlike_webs(ONE, 5, (1,)), 1)

    def test_errors_in_their_order(self):
        for prime in WRONG_PRIMES:
            for row in (None, (0, 0), (7, 1), (1, -1), (1,), [1, 1], (True, 1), (1, 1, 1)):
                check_order(self, unlike_webs, {"net": TRIPLE, "prime": 2, "row": (6, 6)}, [
                    ("net", None, ("BadNet", None)), ("prime", prime, ("BadPrime",)), ("row", row, ("BadRow",))])


if __name__ == "__main__":
    unittest.main()
