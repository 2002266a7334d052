"""Point [141]: how many webs of a row there are, and of each kind, for all primes at once."""

import unittest
from itertools import product

from boughwebs.countings import kind_tally, turns_tally, web_tally
from boughwebs.kinds import general_kind, joinings_of_kinds, kind_row, kinds_of
from boughwebs.nets import Net
from boughwebs.ranks import count_turns
from boughwebs.roots import roots
from boughwebs.solving import count_whole
from boughwebs.splits import kind_of, whole_of
from boughwebs.tallies import is_tally, tally_at, tally_product, tally_sum, tally_through, whole_tally
from boughwebs.webs import Web
from tests.drawn import (ARMS_SIX, CLASH, FIVE, GOOD, NETS, ONE, PAIR, RING, SPREAD, STAR, STEP, STRAIGHT, TRIPLE,
                         all_tables, arms_net, check_order, drawn, drawn_kind, drawn_sizes, error_of, small_rows)

WRONG_ROWS = [None, 3, (1,), (1, 1, 1), [1, 1], (13, 0), (0, 13), (1, -1), (True, 1), (1, 1.0), ("1", 1), ()]


def arrow_sum(net, one, other):
    return sum(one[tail] * other[head] for tail, head in net.arrows)


def all_webs(net, prime, row):
    spaces = [list(all_tables(prime, row[head], row[tail])) for tail, head in net.arrows]
    for tables in product(*spaces):
        yield Web(net, prime, row, tables)


class WebTallyTest(unittest.TestCase):

    def test_on_any_net(self):
        draw = drawn(1411)
        for net in NETS:
            for _ in range(10):
                row = tuple(draw.randrange(13) for _ in range(net.places))
                many = arrow_sum(net, row, row)
                found = web_tally(net=net, row=row)
                self.assertEqual(found, (0,) * many + (1,))
                self.assertTrue(is_tally(found))
            self.assertEqual(web_tally(net, (0,) * net.places), (1,))
            great = web_tally(net, (12,) * net.places)
            self.assertEqual(len(great), 1 + 144 * len(net.arrows))
        self.assertEqual(len(web_tally(Net(2, [(0, 1)] * 12), (12, 12))), 1729)

    def test_it_counts(self):
        for net, row in ((PAIR, (1, 2)), (RING, (1, 1, 2)), (CLASH, (1, 2, 1)), (TRIPLE, (1, 1))):
            for prime in (2, 3):
                self.assertEqual(tally_at(web_tally(net, row), prime), len(list(all_webs(net, prime, row))))

    def test_errors_in_their_order(self):
        for row in WRONG_ROWS:
            check_order(self, web_tally, {"net": PAIR, "row": (12, 12)}, [
                ("net", None, ("BadNet", None)), ("row", row, ("BadRow",))])


class KindTallyTest(unittest.TestCase):

    def test_all_kinds_of_small_rows(self):
        for net, most in ((ONE, 12), (STEP, 5), (STRAIGHT, 3), (CLASH, 3), (SPREAD, 3), (STAR, 2)):
            for row in small_rows(net, most):
                kinds = kinds_of(net, row)
                self.assertEqual(tally_sum([kind_tally(net, kind) for kind in kinds]), web_tally(net, row))

    def test_kinds_of_greater_nets(self):
        draw = drawn(1412)
        for net in (ARMS_SIX, arms_net((1, 2, 3)), arms_net((1, 1, 3), (0, 2))):
            for _ in range(8):
                row = drawn_sizes(draw, net, 1 if net.places > 6 else 2)
                if sum(row) < 9:
                    self.assertEqual(tally_sum([kind_tally(net, kind) for kind in kinds_of(net, row)]),
                                     web_tally(net, row))

    def test_by_all_webs(self):
        for prime, net, row in ((2, STEP, (2, 2)), (2, STEP, (3, 2)), (3, STEP, (2, 2)), (2, CLASH, (1, 2, 1)),
                                (3, CLASH, (1, 2, 1)), (2, STRAIGHT, (2, 2, 1)), (3, STRAIGHT, (1, 2, 1)),
                                (2, STAR, (1, 1, 1, 2)), (3, STAR, (1, 1, 1, 2)), (2, SPREAD, (2, 2, 2))):
            seen = {}
            for web in all_webs(net, prime, row):
                key = tuple(kind_of(web).items())
                seen[key] = seen.get(key, 0) + 1
            kinds = kinds_of(net, row)
            self.assertEqual(len(seen), len(kinds))
            for kind in kinds:
                self.assertEqual(tally_at(kind_tally(net=net, kind=kind), prime), seen[tuple(kind.items())])

    def test_turns(self):
        draw = drawn(1413)
        for net in GOOD:
            for _ in range(12):
                kind = drawn_kind(draw, net, 3)
                if max(kind_row(net, kind)) > 12:
                    continue
                found = turns_tally(net=net, kind=kind)
                self.assertTrue(is_tally(found))
                for prime in (2, 3, 97):
                    self.assertEqual(tally_at(found, prime), count_turns(whole_of(net, prime, kind)))
                whole = tally_product([whole_tally(number) for number in kind_row(net, kind)])
                told = kind_tally(net, kind)
                self.assertEqual(told, tally_through(whole, found))
                row = kind_row(net, kind)
                self.assertEqual(told[-1], 1)
                self.assertEqual(len(told), 1 + arrow_sum(net, row, row) - joinings_of_kinds(net, kind, kind))

    def test_rows_of_noughts_and_of_twelve(self):
        for net in GOOD:
            self.assertEqual((turns_tally(net, {}), kind_tally(net, {})), ((1,), (1,)))
            units = {root: 12 for root in roots(net)[:net.places]}
            self.assertEqual(kind_tally(net, units), (1,))
            self.assertEqual(tally_at(turns_tally(net, units), 2), count_whole(2, 12) ** net.places)
            general = general_kind(net, (12,) * net.places)
            self.assertEqual(len(kind_tally(net, general)), 1 + 144 * len(net.arrows))
            for root in roots(net):
                kind = {root: 12 // max(root)}
                self.assertEqual(kind_tally(net, kind)[-1], 1)
                kind = {root: 13 // max(root)} if max(root) == 1 else {root: 12 // max(root) + 1}
                self.assertEqual(error_of(kind_tally, net, kind), ("BadKind",))
                self.assertEqual(error_of(turns_tally, net, kind), ("BadKind",))

    def test_errors_in_their_order(self):
        for work in (turns_tally, kind_tally):
            for kind in (None, [], {(1, 1): 0}, {(2, 1): 1}, {(1, 1): True}, {(1, 0): 13}, {(1, 0): 6, (1, 1): 7}, {1: 1}):
                check_order(self, work, {"net": STEP, "kind": {(1, 1): 12}}, [
                    ("net", None, ("BadNet", None)), ("net", PAIR, ("NotGood",)), ("kind", kind, ("BadKind",))])
            for net in (RING, FIVE, TRIPLE):
                self.assertEqual(error_of(work, net, {}), ("NotGood",))

    def test_example(self):
        kind = {(0, 1): 1, (1, 0): 1}
        self.assertEqual((turns_tally(STEP, kind), kind_tally(STEP, kind)), ((1, -2, 1), (1,)))


if __name__ == "__main__":
    unittest.main()
