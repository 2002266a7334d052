"""Point [101]: rows under rows, and maps and joinings in general."""

import unittest

from boughwebs.generals import general_joinings, general_maps, is_under, under_rows
from boughwebs.joinings import count_joinings
from boughwebs.kinds import general_kind
from boughwebs.maps import count_maps
from boughwebs.nets import Net
from boughwebs.parts import all_parts, part_row
from boughwebs.roots import pair_form
from boughwebs.splits import whole_of
from tests.drawn import (CLASH, GOOD, NETS, ONE, PAIR, RING, SQUARE, STAR, STEP, STRAIGHT, TRIPLE, check_order, drawn,
                         drawn_sizes, drawn_web, error_of, small_rows)

LONG = Net(5, [(0, 1), (1, 2), (2, 3), (3, 4)])


def under_plainly(net, one, other, known):
    """By the definition; what is known already is kept."""
    if (one, other) not in known:
        left = tuple(b - a for a, b in zip(one, other))
        known[one, other] = min(left) >= 0 and (one == other or all(
            pair_form(net, row, left) >= 0 for row in small_rows(net, max(one))
            if under_plainly(net, row, one, known)))
    return known[one, other]


class UnderTest(unittest.TestCase):

    def test_by_the_definition(self):
        for net, most in ((ONE, 4), (STEP, 3), (STRAIGHT, 2), (CLASH, 2), (PAIR, 3), (TRIPLE, 2), (RING, 2), (STAR, 1),
                          (SQUARE, 1)):
            known = {}
            rows = small_rows(net, most)
            for row in rows:
                told = [one for one in rows if under_plainly(net, one, row, known)]
                found = under_rows(net=net, row=row)
                self.assertIs(type(found), list)
                self.assertEqual(found, told)
                self.assertIn(row, found)
                self.assertIn((0,) * net.places, found)
                for one in rows:
                    self.assertIs(is_under(net=net, one=one, other=row), one in told)

    def test_joinings_and_maps(self):
        draw = drawn(941)
        for net, most in ((ONE, 2), (STEP, 2), (STRAIGHT, 1), (PAIR, 2), (RING, 1), (STAR, 1)):
            rows = small_rows(net, most)
            for one in rows:
                for other in rows:
                    told = max(-pair_form(net, row, other) for row in under_rows(net, one))
                    self.assertEqual(general_joinings(net=net, one=one, other=other), told)
                    many = general_maps(net=net, one=one, other=other)
                    self.assertEqual(many, told + pair_form(net, one, other))
            for _ in range(20):
                one, other = [drawn_web(draw, net, 2, drawn_sizes(draw, net, most)) for _ in range(2)]
                self.assertLessEqual(general_maps(net, one.sizes, other.sizes), count_maps(one, other))
                self.assertLessEqual(general_joinings(net, one.sizes, other.sizes), count_joinings(one, other))

    def test_webs_of_the_general_kind(self):
        draw = drawn(942)
        for net in GOOD:
            for prime in (2, 3):
                one, other = [drawn_sizes(draw, net, 2 if net.places < 5 else 1) for _ in range(2)]
                webs = [whole_of(net, prime, general_kind(net, row)) for row in (one, other)]
                self.assertEqual(general_maps(net, one, other), count_maps(*webs))
                self.assertEqual(general_joinings(net, one, other), count_joinings(*webs))
                if error_of(all_parts, webs[0]) is None:
                    told = sorted({part_row(webs[0], part) for part in all_parts(webs[0])})
                    self.assertEqual(under_rows(net, one), told)

    def test_by_hand(self):
        self.assertEqual(under_rows(STEP, (1, 1)), [(0, 0), (0, 1), (1, 1)])
        self.assertEqual(under_rows(STEP, (2, 1)), [(0, 0), (0, 1), (1, 0), (1, 1), (2, 1)])
        self.assertEqual(under_rows(PAIR, (1, 1)), [(0, 0), (0, 1), (1, 1)])
        self.assertEqual(general_maps(PAIR, (1, 1), (1, 1)), 0)
        self.assertEqual(general_maps(PAIR, (0, 1), (1, 1)), 1)

    def test_250_rows(self):
        # 250 and 252, 13 * 13, and the greater of both at each place.
        for row, told in (((4, 4, 9, 0, 0), None), ((1, 1, 6, 8, 0), ("TooMany", 250)), ((12, 12, 0, 0, 0), None),
                          ((12, 12, 1, 0, 0), ("TooMany", 250))):
            self.assertEqual(error_of(under_rows, LONG, row), told)
            self.assertEqual(error_of(is_under, LONG, (0,) * 5, row), told)
            self.assertEqual(error_of(is_under, LONG, row, (0,) * 5), told)
        for work in (is_under, general_joinings, general_maps):
            self.assertIsNone(error_of(work, LONG, (4, 0, 9, 0, 0), (0, 4, 0, 0, 0)))
            self.assertEqual(error_of(work, LONG, (4, 0, 9, 0, 0), (0, 5, 0, 0, 0)), ("TooMany", 250))
            self.assertEqual(error_of(work, LONG, (12,) * 5, (13,) * 5), ("BadRow",))
        self.assertIs(is_under(LONG, (1, 1, 6, 7, 0), (0, 0, 0, 0, 0)), False)

    def test_errors_in_their_order(self):
        wrong = ((0, 13), (0, -1), (1,), [1, 1], (True, 1), (1.0, 1), None, "11")
        for net in NETS:
            row = (1,) * net.places
            for work in (is_under, general_joinings, general_maps):
                check_order(self, work, {"net": net, "one": row, "other": row}, [
                    ("net", None, ("BadNet", None)), ("one", (13,) * net.places, ("BadRow",)),
                    ("other", (-1,) * net.places, ("BadRow",))])
            check_order(self, under_rows, {"net": net, "row": row}, [("net", 3, ("BadNet", None)),
                                                                     ("row", (13,) * net.places, ("BadRow",))])
        for thing in wrong:
            self.assertEqual(error_of(under_rows, STEP, thing), ("BadRow",))
            for work in (is_under, general_joinings, general_maps):
                self.assertEqual(error_of(work, STEP, thing, (1, 1)), ("BadRow",))
                self.assertEqual(error_of(work, STEP, (1, 1), thing), ("BadRow",))


if __name__ == "__main__":
    unittest.main()
