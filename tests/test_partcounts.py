"""Point [142]: how many parts of each row a web of a kind has, for all primes at once."""

import unittest

from boughwebs.countings import kind_tally
from boughwebs.errors import TooMany
from boughwebs.generals import under_rows
from boughwebs.kinds import general_kind, joinings_of_kinds, kind_row, kinds_of, sum_kind
from boughwebs.nets import turned_net
from boughwebs.partcounts import part_tallies
from boughwebs.parts import all_parts, part_row
from boughwebs.roots import highest, pair_form, roots
from boughwebs.splits import whole_of
from boughwebs.tallies import choices_tally, is_tally, tally_at, tally_product, tally_sum
from tests.drawn import (ARMS_SIX, CLASH, FIVE, GOOD, ONE, PAIR, RING, SPREAD, STAR, STEP, STRAIGHT, arms_net,
                         check_order, drawn, drawn_kind, error_of, renamed, small_rows)
from tests.test_countings import arrow_sum

SMALL = [ONE, STEP, STRAIGHT, CLASH, SPREAD, STAR]


def powers(power):
    return (0,) * power + (1,)


def less(one, other):
    return tuple(a - b for a, b in zip(one, other))



def small_rows_of(row):
    found = [()]
    for number in row:
        found = [ahead + (k,) for ahead in found for k in range(number + 1)]
    return found


class PartTalliesTest(unittest.TestCase):

    def test_all_parts_of_small_webs(self):
        draw = drawn(1421)
        seen = 0
        nets = SMALL + [renamed(draw, arms_net((1, 1, 2))), renamed(draw, ARMS_SIX)]
        for net in nets:
            kinds = [{root: 1} for root in roots(net)] + [drawn_kind(draw, net, 2, 2) for _ in range(8)]
            for kind in kinds:
                found = part_tallies(net=net, kind=kind)
                self.assertEqual(list(found), sorted(found))
                self.assertTrue(all(is_tally(tally) and tally for tally in found.values()))
                for prime in (2, 3):
                    web = whole_of(net, prime, kind)
                    try:
                        parts = all_parts(web)
                    except TooMany:
                        continue
                    many = {}
                    for part in parts:
                        row = part_row(web, part)
                        many[row] = many.get(row, 0) + 1
                    self.assertEqual({row: tally_at(tally, prime) for row, tally in found.items()}, many)
                    seen += 1
        self.assertGreater(seen, 150)

    def test_sums_over_all_kinds(self):
        for net, most in ((ONE, 5), (STEP, 3), (STRAIGHT, 2), (CLASH, 2), (SPREAD, 2), (STAR, 1)):
            for row in small_rows(net, most):
                told = [(kind_tally(net, kind), part_tallies(net, kind)) for kind in kinds_of(net, row)]
                for part in small_rows_of(row):
                    found = tally_sum([tally_product([many, parts.get(part, ())]) for many, parts in told])
                    choices = tally_product([choices_tally(a, b) for a, b in zip(row, part)])
                    power = arrow_sum(net, row, row) - arrow_sum(net, part, less(row, part))
                    self.assertEqual(found, tally_product([choices, powers(power)]))

    def test_sums_of_kinds(self):
        draw = drawn(1422)
        for net in SMALL + [ARMS_SIX]:
            for _ in range(15):
                one, other = drawn_kind(draw, net, 2, 2), drawn_kind(draw, net, 2, 2)
                both = sum_kind(net, [one, other])
                row = kind_row(net, both)
                if joinings_of_kinds(net, other, one) or len(small_rows_of(row)) > 700:
                    continue
                ahead = kind_row(net, one)
                told = {}
                for some, first in part_tallies(net, one).items():
                    for more, second in part_tallies(net, other).items():
                        power = pair_form(net, more, less(ahead, some))
                        total = tuple(a + b for a, b in zip(some, more))
                        told[total] = tally_sum([told.get(total, ()), tally_product([first, second, powers(power)])])
                self.assertEqual(part_tallies(net, both), told)

    def test_no_number_below_nought(self):
        draw = drawn(1423)
        for net in GOOD + [renamed(draw, arms_net((1, 1, 3))), renamed(draw, arms_net((1, 1, 4)))]:
            for root in roots(net)[-6:]:
                for tally in part_tallies(net, {root: 1}).values():
                    self.assertGreaterEqual(min(tally), 0)

    def test_turned_nets(self):
        draw = drawn(1424)
        for net in GOOD:
            for _ in range(6):
                kind = drawn_kind(draw, net, 2, 2)
                row = kind_row(net, kind)
                if len(small_rows_of(row)) <= 700:
                    found = part_tallies(net, kind)
                    self.assertEqual(part_tallies(turned_net(net), kind),
                                     {less(row, part): found[part] for part in sorted(found, reverse=True)})

    def test_general_kinds(self):
        draw = drawn(1425)
        for net in GOOD:
            for _ in range(6):
                row = tuple(draw.randrange(3) for _ in range(net.places))
                if len(small_rows_of(row)) <= 250:
                    self.assertEqual(list(part_tallies(net, general_kind(net, row))), under_rows(net, row))

    def test_bounds(self):
        self.assertEqual(part_tallies(STAR, {}), {(0, 0, 0, 0): (1,)})
        # Just 700 rows, and 702.
        self.assertEqual(len(part_tallies(STAR, {(1, 0, 0, 0): 9, (0, 1, 0, 0): 9, (0, 0, 1, 0): 6})), 700)
        self.assertEqual(error_of(part_tallies, STAR, {(1, 0, 0, 0): 12, (0, 1, 0, 0): 8, (0, 0, 1, 0): 5}),
                         ("TooMany", 700))
        for lengths in ((1, 2, 3), (1, 2, 4), (1, 1, 5)):
            net = arms_net(lengths)
            rows = 1
            for number in highest(net):
                rows *= number + 1
            self.assertGreater(rows, 700)
            self.assertEqual(error_of(part_tallies, net, {}), ("TooMany", 700))
        self.assertEqual(len(part_tallies(arms_net((1, 1, 4)), {})), 1)
        self.assertEqual(part_tallies(ONE, {(1,): 12}), {(k,): choices_tally(12, k) for k in range(13)})

    def test_errors_in_their_order(self):
        for kind in (None, [], {(1, 1): 0}, {(2, 1): 1}, {(1, 1): True}, {(1, 0): 13}, {(1, 0): 6, (1, 1): 7}):
            check_order(self, part_tallies, {"net": STEP, "kind": {(1, 1): 12}}, [
                ("net", None, ("BadNet", None)), ("net", PAIR, ("NotGood",)), ("kind", kind, ("BadKind",))])
        for net in (RING, FIVE):
            self.assertEqual(error_of(part_tallies, net, {}), ("NotGood",))
        self.assertEqual(error_of(part_tallies, arms_net((1, 2, 4)), None), ("BadKind",))

    def test_example(self):
        self.assertEqual(part_tallies(STEP, {(0, 1): 1, (1, 0): 1}),
                         {(0, 0): (1,), (0, 1): (1,), (1, 0): (1,), (1, 1): (1,)})
        self.assertEqual(part_tallies(STEP, {(1, 1): 1}), {(0, 0): (1,), (0, 1): (1,), (1, 1): (1,)})


if __name__ == "__main__":
    unittest.main()
