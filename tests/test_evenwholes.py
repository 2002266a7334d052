"""Point [151]: the least whole of each root, and sums of these."""

import unittest

from boughwebs.evenwholes import all_leasts, even_whole, least_whole
from boughwebs.kinds import kind_row
from boughwebs.leasts import shown_least
from boughwebs.roots import highest, roots
from boughwebs.splits import is_least, kind_of
from boughwebs.wholes import Whole, modulo, sum_of_wholes
from tests.drawn import (ARMS_SIX, FIVE, GOOD, ONE, PAIR, RING, STEP, arms_net, check_order, drawn, drawn_kind, error_of,
                         good_nets, renamed)


class LeastWholeTest(unittest.TestCase):

    def test_modulo_several_primes(self):
        draw = drawn(1511)
        for net in GOOD + good_nets(1512) + [renamed(draw, arms_net((1, 2, 4)))]:
            some = roots(net)
            for root in some if net.places < 6 else draw.sample(some, 12) + [highest(net)]:
                whole = least_whole(net=net, root=root)
                self.assertEqual((whole.net, whole.sizes), (net, root))
                for prime in (2, 3, 5, 7, 97):
                    web = modulo(whole, prime)
                    self.assertTrue(is_least(web))
                    self.assertIsNotNone(shown_least(web))
                self.assertEqual(least_whole(net, root), whole)

    def test_all_at_once(self):
        for net in GOOD + good_nets(1513):
            found = all_leasts(net)
            self.assertEqual(sorted(found), sorted(roots(net)))
            for root in found if net.places < 7 else list(found)[::9]:
                self.assertEqual(found[root], least_whole(net, root))

    def test_numbers_stay_small(self):
        draw = drawn(1514)
        for _ in range(6):
            for whole in all_leasts(renamed(draw, arms_net((1, 2, 4)))).values():
                self.assertTrue(all(abs(number) <= 6 for table in whole.tables for line in table for number in line))

    def test_errors_in_their_order(self):
        for root in (None, (0, 0), (2, 1), (1,), [1, 1], (1, 1, 1), (True, 1), (-1, 0), (1, 1.0)):
            check_order(self, least_whole, {"net": STEP, "root": (1, 1)}, [
                ("net", None, ("BadNet", None)), ("net", PAIR, ("NotGood",)), ("root", root, ("BadRow",))])


class EvenWholeTest(unittest.TestCase):

    def test_sums(self):
        draw = drawn(1515)
        for net in GOOD + good_nets(1516):
            for _ in range(5):
                kind = drawn_kind(draw, net, 2, 3)
                row = kind_row(net, kind)
                if max(row) > 12 or sum(row) > 30:
                    self.assertEqual(error_of(even_whole, net, kind), ("BadWhole", "sizes"))
                    continue
                whole = even_whole(net=net, kind=kind)
                self.assertEqual(whole.sizes, row)
                for prime in (2, 3, 97):
                    self.assertEqual(kind_of(modulo(whole, prime)), kind)
                told = [least_whole(net, root) for root in sorted(kind) for _ in range(kind[root])]
                if told:
                    self.assertEqual(whole, sum_of_wholes(told))
            self.assertEqual(even_whole(net, {}), Whole(net, (0,) * net.places, [[]] * len(net.arrows)))
        turned = {(1, 0): 2, (0, 1): 1}
        self.assertEqual(even_whole(STEP, turned), even_whole(STEP, {(0, 1): 1, (1, 0): 2}))

    def test_bounds(self):
        self.assertEqual(even_whole(ONE, {(1,): 12}).sizes, (12,))
        self.assertEqual(error_of(even_whole, ONE, {(1,): 13}), ("BadWhole", "sizes"))
        self.assertEqual(even_whole(STEP, {(1, 1): 12}).sizes, (12, 12))
        units = {root: 5 for root in roots(ARMS_SIX)[:6]}
        self.assertEqual(even_whole(ARMS_SIX, units).sizes, (5,) * 6)
        units[min(units)] = 6
        self.assertEqual(error_of(even_whole, ARMS_SIX, units), ("BadWhole", "sizes"))
        self.assertEqual(error_of(even_whole, ONE, {(1,): 10 ** 12}), ("BadWhole", "sizes"))

    def test_errors_in_their_order(self):
        for kind in (None, [], {(1, 1): 0}, {(2, 1): 1}, {(1, 1): True}, {(1,): 1}):
            check_order(self, even_whole, {"net": STEP, "kind": {(1, 1): 1}}, [
                ("net", 3, ("BadNet", None)), ("net", RING, ("NotGood",)), ("kind", kind, ("BadKind",))])
        self.assertEqual(error_of(even_whole, FIVE, {}), ("NotGood",))


if __name__ == "__main__":
    unittest.main()
