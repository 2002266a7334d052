"""Point [122]: pairs of tables split into least ones, and how many chains there are."""

import unittest

from boughwebs.maps import is_alike
from boughwebs.pairforms import chain_count, is_split_pair, kind_of_pair, split_pair
from boughwebs.pairs import is_pair_kind, least_pair, least_sizes, pair_net, sum_of_kind
from boughwebs.solving import kernel
from boughwebs.tables import Table, across, empty, plain, scaled
from boughwebs.webs import Web, bare, changed
from tests.drawn import (PAIR, RING, STEP, TRIPLE, all_tables, check_order, drawn, drawn_web, error_of, of_other_kinds,
                         turned_about, with_one_otherwise)
from tests.test_pairs import BARE, drawn_names, small_names

NO_PAIRS = [None, 3, PAIR, (), "pair", bare(STEP, 3, (1, 1)), bare(TRIPLE, 3, (1, 1)), bare(RING, 3, (1, 1, 1))]


def turned_across(web):
    return Web(web.net, web.prime, web.sizes[::-1], [across(table) for table in web.tables])


def chains_plainly(web, many):
    """How many columns the kernel of all equations for the numbers of a chain has."""
    first, second = web.tables
    wide, tall = web.sizes
    rows = []
    for k in range(many + 2):
        for i in range(tall):
            row = [0] * (wide * (many + 1))
            for j in range(wide):
                if k <= many:
                    row[k * wide + j] += second.lines[i][j]
                if k:
                    row[(k - 1) * wide + j] -= first.lines[i][j]
            rows.append(row)
    return kernel(Table(web.prime, len(rows), wide * (many + 1), rows)).wide


class SplitPairTest(unittest.TestCase):

    def judged(self, web):
        """The split is judged; its kind is told."""
        found = split_pair(web=web)
        self.assertIs(type(found), tuple)
        kind, coordinates = found
        self.assertIs(type(coordinates), list)
        self.assertIs(is_pair_kind(web.prime, kind), True)
        self.assertEqual(changed(web, coordinates), sum_of_kind(web.prime, kind))
        self.assertEqual(kind_of_pair(web=web), kind)
        self.assertIs(is_split_pair(web=web, thing=found), True)
        self.assertEqual(split_pair(web), found)
        return found

    def test_drawn_sums_in_drawn_coordinates(self):
        draw = drawn(1221)
        for prime in BARE:
            for _ in range(40):
                kind = drawn_names(draw, prime, 6)
                web = turned_about(draw, sum_of_kind(prime, kind))
                self.assertEqual(self.judged(web)[0], kind)

    def test_drawn_tables(self):
        draw = drawn(1222)
        for prime in BARE:
            for _ in range(60):
                self.judged(drawn_web(draw, PAIR, prime, (draw.randrange(6), draw.randrange(6)),
                                      draw.choice((0.2, 0.5, 0.9))))

    def test_each_least_pair(self):
        draw = drawn(1223)
        for prime in BARE:
            for name in small_names(prime):
                self.assertEqual(self.judged(least_pair(prime, name))[0], (name,))
                twice = turned_about(draw, sum_of_kind(prime, (name, name)))
                self.assertEqual(self.judged(twice)[0], (name, name))

    def test_all_small_pairs(self):
        for sizes in ((1, 1), (1, 2), (2, 1)):
            seen = {}
            for first in all_tables(2, sizes[1], sizes[0]):
                for second in all_tables(2, sizes[1], sizes[0]):
                    web = Web(PAIR, 2, sizes, [first, second])
                    seen.setdefault(self.judged(web)[0], []).append(web)
            self.assertEqual(sum(len(webs) for webs in seen.values()), 2 ** (2 * sizes[0] * sizes[1]))
            for kind in seen:
                self.assertEqual(tuple(map(sum, zip(*[least_sizes(2, name) for name in kind]))), sizes)

    def test_great_sizes(self):
        draw = drawn(1224)
        for prime, kind in ((2, (("up", 12),)), (3, (("down", 12),)), (5, (("far", 12),)), (2, (("turn", (1, 1), 12),)),
                            (97, (("down", 0),) * 5 + (("up", 0),) * 7), (3, (("down", 4), ("far", 3), ("up", 5)))):
            web = turned_about(draw, sum_of_kind(prime, kind))
            self.assertEqual(self.judged(web)[0], kind)
        for sizes in ((0, 60), (60, 0), (60, 60)):
            web = bare(PAIR, 2, sizes)
            told = (("down", 0),) * sizes[0] + (("up", 0),) * sizes[1]
            self.assertEqual(self.judged(web)[0], told)
        self.assertEqual(self.judged(bare(PAIR, 2, (0, 0))), ((), [empty(2, 0, 0)] * 2))

    def test_pairs_that_no_mixture_of_the_tables_tells(self):
        # Over 2 and 3 each sum of multiples of both tables leads something to 0.
        draw = drawn(1228)
        two = (("far", 1), ("turn", (0, 1), 1), ("turn", (1, 1), 1))
        three = (("far", 2), ("turn", (0, 1), 1), ("turn", (1, 1), 2), ("turn", (2, 1), 1))
        for prime, regular in ((2, two), (3, three)):
            for more in ((), (("up", 4),), (("down", 3),), (("down", 2), ("up", 3)), (("up", 0), ("up", 5)),
                         (("down", 1), ("down", 4), ("up", 0), ("up", 2)), (("down", 0), ("down", 0))):
                kind = tuple(sorted(regular + more))
                web = turned_about(draw, sum_of_kind(prime, kind))
                self.assertEqual(self.judged(web)[0], kind)

    def test_many_drawn_sums(self):
        draw = drawn(1229)
        for prime in BARE:
            for _ in range(12):
                kind = drawn_names(draw, prime, 14)
                web = turned_about(draw, sum_of_kind(prime, kind))
                self.assertEqual(self.judged(web)[0], kind)

    def test_sums_as_they_are_made(self):
        for prime, kind in ((2, (("down", 2), ("far", 2), ("turn", (1, 1, 0, 1), 1), ("turn", (1, 1, 1), 1), ("up", 2))),
                            (97, (("turn", (1, 1), 1),) * 12),
                            (97, (("down", 0), ("down", 1), ("down", 2), ("down", 3)))):
            self.assertEqual(self.judged(sum_of_kind(prime, kind))[0], kind)

    def test_example(self):
        web = Web(pair_net(), 2, (2, 2), [plain(2, 2), Table(2, 2, 2, [[0, 1], [1, 1]])])
        self.assertEqual(kind_of_pair(web), (("turn", (1, 1, 1), 1),))

    def test_other_values(self):
        draw = drawn(1225)
        for prime in (2, 5):
            for _ in range(12):
                web = drawn_web(draw, PAIR, prime, (draw.randrange(4), draw.randrange(4)))
                kind, coordinates = found = split_pair(web)
                goal = sum_of_kind(prime, kind)
                for thing in of_other_kinds(found):
                    self.assertIs(is_split_pair(web, thing), False)
                for bent in with_one_otherwise(tuple(coordinates)):
                    self.assertIs(is_split_pair(web, (kind, list(bent))), is_alike(web, goal, bent))
                if any(web.sizes):
                    self.assertIs(is_split_pair(web, (kind, [scaled(table, 0) for table in coordinates])), False)
                    self.assertIs(is_split_pair(web, (kind[1:], coordinates)), False)
                if prime == 5:
                    self.assertIs(is_split_pair(web, (kind, [scaled(table, 3) for table in coordinates])), True)
        web = sum_of_kind(3, (("far", 1), ("turn", (0, 1), 1)))
        unit = [plain(3, 2), plain(3, 2)]
        self.assertIs(is_split_pair(web, ((("far", 1), ("turn", (0, 1), 1)), unit)), True)
        for kind in ((("turn", (0, 1), 1), ("far", 1)), (("far", 1), ("turn", (1, 1), 1)), (("far", 2),),
                     (("down", 0), ("up", 1)), (("far", 1),) * 2):
            self.assertIs(is_split_pair(web, (kind, unit)), False)

    def test_no_pairs(self):
        for wrong in NO_PAIRS:
            for work in (split_pair, kind_of_pair, lambda web: is_split_pair(web, None)):
                self.assertEqual(error_of(work, wrong), ("NotPair",))


class ChainCountTest(unittest.TestCase):

    def test_by_the_fact(self):
        draw = drawn(1226)
        for prime in BARE:
            for _ in range(12):
                kind = drawn_names(draw, prime, 5)
                web = turned_about(draw, sum_of_kind(prime, kind))
                turned = turned_across(web)
                for many in range(13):
                    for some, word in ((web, "down"), (turned, "up")):
                        told = sum(many + 1 - name[1] for name in kind if name[0] == word and name[1] <= many)
                        self.assertEqual(chain_count(web=some, many=many), told)

    def test_by_all_equations(self):
        draw = drawn(1227)
        for prime in (2, 3):
            for _ in range(20):
                web = drawn_web(draw, PAIR, prime, (draw.randrange(5), draw.randrange(4)))
                for many in range(4):
                    self.assertEqual(chain_count(web, many), chains_plainly(web, many))

    def test_errors_in_their_order(self):
        web = least_pair(3, ("down", 2))
        for wrong in NO_PAIRS:
            for many in (None, -1, 13, True, 2.0, "2"):
                check_order(self, chain_count, {"web": web, "many": 2}, [
                    ("web", wrong, ("NotPair",)), ("many", many, ("BadNumber", "many"))])
        self.assertEqual([chain_count(web, many) for many in (0, 1, 2, 3, 12)], [0, 0, 1, 2, 11])


if __name__ == "__main__":
    unittest.main()
