"""Points [21] and [22]: the form, shapes, roots."""

import unittest
from itertools import product

from boughwebs.errors import BadNet, BadPlace, BadRow, NotGood
from boughwebs.nets import Net
from boughwebs.roots import form, highest, is_shape, mirrored_row, pair_form, roots, shape
from tests.drawn import (ARMS_SIX, CLASH, GOOD, NETS, ONE, PAIR, RING, SQUARE, STAR, STEP, STRAIGHT, TRIPLE,
                         arms_net, drawn, drawn_net, renamed)

# Arms of stars (the middle place not counted), and the shapes of these nets.
GOOD_ARMS = ([((1,) * min(n - 1, 1) + (n - 2,) * (n > 2), ("line", n)) for n in range(1, 9)]
             + [((1, 1, n - 3), ("fork", n)) for n in range(4, 9)]
             + [((1, 2, n - 4), ("arms", n)) for n in (6, 7, 8)])
FOUR_ENDS = [Net(5, [(0, 4), (1, 4), (2, 4), (3, 4)]),
             Net(6, [(0, 4), (1, 4), (4, 5), (2, 5), (3, 5)]),
             Net(7, [(0, 4), (1, 4), (4, 6), (6, 5), (2, 5), (3, 5)]),
             Net(8, [(0, 4), (1, 4), (4, 6), (6, 7), (7, 5), (2, 5), (3, 5)])]
RINGS = [Net(2, [(0, 1), (0, 1)])] + [Net(n, [(k, k + 1) for k in range(n - 1)] + [(0, n - 1)]) for n in range(3, 9)]
WILD = [TRIPLE, Net(3, [(0, 1), (0, 1), (1, 2)]), Net(6, [(k, 5) for k in range(5)]), arms_net((2, 2, 3)),
        arms_net((1, 1, 1, 2)), Net(4, [(0, 1), (1, 2), (0, 2), (2, 3)]), Net(2, [(0, 1)] * 12),
        Net(4, [(0, 1), (0, 2), (0, 3), (1, 2), (1, 3), (2, 3)])]


def plain_form(net, row):
    return sum(a * a for a in row) - sum(row[tail] * row[head] for tail, head in net.arrows)


def above_nought(net):
    """Whether the form is above 0 everywhere: all corners of its table are."""
    lines = [[2 * (i == j) for j in range(net.places)] for i in range(net.places)]
    for tail, head in net.arrows:
        lines[tail][head] -= 1
        lines[head][tail] -= 1
    ahead = 1
    for k in range(net.places):
        if lines[k][k] <= 0:
            return False
        for i in range(k + 1, net.places):
            for j in range(k + 1, net.places):
                lines[i][j] = (lines[i][j] * lines[k][k] - lines[i][k] * lines[k][j]) // ahead
        ahead = lines[k][k]
    return True


class FormTest(unittest.TestCase):

    def test_by_hand(self):
        self.assertEqual(pair_form(STEP, (1, 0), (0, 1)), -1)
        self.assertEqual(pair_form(STEP, (0, 1), (1, 0)), 0)
        self.assertEqual(pair_form(net=TRIPLE, one=(2, -1), other=(5, 7)), 10 - 7 - 3 * 14)
        self.assertEqual(form(net=TRIPLE, row=(2, -1)), 4 + 1 + 6)
        self.assertEqual(form(ONE, (-3,)), 9)

    def test_form_is_pair_form_of_a_row_and_itself(self):
        draw = drawn(21)
        for net in NETS:
            for _ in range(10):
                one, other = [tuple(draw.randrange(-9, 10) for _ in range(net.places)) for _ in range(2)]
                self.assertEqual(form(net, one), pair_form(net, one, one))
                self.assertEqual(form(net, one), plain_form(net, one))
                both = tuple(a + b for a, b in zip(one, other))
                crossed = pair_form(net, one, other) + pair_form(net, other, one)
                self.assertEqual(form(net, both), form(net, one) + form(net, other) + crossed)

    def test_bad_rows(self):
        for row in ([1, 1], (1,), (1, 1, 1), (1, True), (1, 1.0), (1, None), None, 2, "11", {0: 1, 1: 1}, ()):
            with self.assertRaises(BadRow):
                form(STEP, row)
            with self.assertRaises(BadRow):
                pair_form(STEP, row, (1, 1))
            with self.assertRaises(BadRow):
                pair_form(STEP, (1, 1), row)


class ShapeTest(unittest.TestCase):

    def test_good_nets_in_any_naming(self):
        draw = drawn(22)
        for arms, told in GOOD_ARMS:
            net = arms_net(arms)
            for other in [net] + [renamed(draw, net) for _ in range(12)]:
                self.assertEqual(shape(other), told)
                self.assertIs(is_shape(other, told), True)

    def test_round_nets(self):
        for net in RINGS:
            self.assertEqual(shape(net), ("round", (1,) * net.places))
        for net in FOUR_ENDS:
            self.assertEqual(shape(net), ("round", (1, 1, 1, 1) + (2,) * (net.places - 4)))
        self.assertEqual(shape(arms_net((2, 2, 2))), ("round", (3, 2, 1, 2, 1, 2, 1)))
        self.assertEqual(shape(arms_net((1, 3, 3))), ("round", (4, 2, 3, 2, 1, 3, 2, 1)))

    def test_round_nets_in_any_naming(self):
        draw = drawn(23)
        for net in RINGS + FOUR_ENDS + [arms_net((2, 2, 2)), arms_net((1, 3, 3))]:
            for _ in range(10):
                other = renamed(draw, net)
                word, row = shape(other)
                self.assertEqual((word, sorted(row)), ("round", sorted(shape(net)[1])))
                self.assertEqual(form(other, row), 0)
                for at in range(other.places):
                    unit = tuple(int(k == at) for k in range(other.places))
                    self.assertEqual(pair_form(other, unit, row) + pair_form(other, row, unit), 0)

    def test_wild_nets(self):
        for net in WILD:
            word, row = shape(net)
            self.assertEqual(word, "wild")
            told = (1,) * net.places
            while plain_form(net, told) >= 0:
                told = tuple(told[k] + sum(told[b] for a, b in net.arrows if a == k)
                             + sum(told[a] for a, b in net.arrows if b == k) for k in range(net.places))
            self.assertEqual(row, told)
        self.assertEqual(shape(TRIPLE), ("wild", (1, 1)))
        self.assertEqual(shape(WILD[1]), ("wild", (3, 4, 2)))

    def test_drawn_nets_against_the_form(self):
        draw = drawn(24)
        seen = {}
        for _ in range(400):
            places = draw.randrange(1, 9)
            net = drawn_net(draw, places, draw.choice((0, 0, 0, places, places + 1, 12)))
            told = shape(net)
            seen[told[0]] = seen.get(told[0], 0) + 1
            self.assertEqual(above_nought(net), told[0] in ("line", "fork", "arms"))
            if told[0] in ("round", "wild"):
                self.assertGreater(min(told[1]), 0)
                self.assertEqual(form(net, told[1]) < 0, told[0] == "wild")
                self.assertLessEqual(form(net, told[1]), 0)
            else:
                self.assertEqual(told[1], places)
        self.assertEqual(sorted(seen), ["arms", "fork", "line", "round", "wild"])

    def test_least_round_row_by_trying(self):
        for net in (PAIR, RING, SQUARE, FOUR_ENDS[0], FOUR_ENDS[1]):
            rows = [row for row in product(range(1, 4), repeat=net.places) if form(net, row) == 0]
            self.assertEqual(shape(net)[1], min(rows))

    def test_is_shape_of_any_value(self):
        self.assertIs(is_shape(ONE, ("line", 1)), True)
        self.assertIs(is_shape(net=PAIR, thing=("round", (1, 1))), True)
        for thing in (("line", True), ("line", 1.0), ["line", 1], ("line",), ("line", 1, 1), ("fork", 1), ("LINE", 1),
                      (None, 1), ("line", None), ("line", (1,)), None, 3, "line", {"line": 1}, ONE, (1, "line")):
            self.assertIs(is_shape(ONE, thing), False)
        for thing in (("round", [1, 1]), ("round", (1, True)), ("round", (2, 2)), ("round", (1,)), ("wild", (1, 1)),
                      ("round", 2), ("round", (1.0, 1)), ["round", (1, 1)]):
            self.assertIs(is_shape(PAIR, thing), False)


class RootsTest(unittest.TestCase):

    def test_numbers(self):
        for arms, (word, n) in GOOD_ARMS:
            many = {"line": n * (n + 1) // 2, "fork": n * (n - 1)}.get(word) or {6: 36, 7: 63, 8: 120}[n]
            self.assertEqual(len(roots(arms_net(arms))), many)

    def test_by_hand(self):
        self.assertEqual(roots(STEP), [(0, 1), (1, 0), (1, 1)])
        self.assertEqual(roots(ONE), [(1,)])
        self.assertEqual(roots(net=STRAIGHT), [(0, 0, 1), (0, 1, 0), (1, 0, 0), (0, 1, 1), (1, 1, 0), (1, 1, 1)])

    def test_all_rows_of_form_one(self):
        for net in GOOD[:-1] + [arms_net((1, 1, 2))]:
            rows = [row for row in product(range(4), repeat=net.places) if form(net, row) == 1]
            self.assertEqual(roots(net), sorted(rows, key=lambda row: (sum(row), row)))

    def test_order_and_form(self):
        draw = drawn(25)
        for arms, _ in GOOD_ARMS:
            net = renamed(draw, arms_net(arms))
            found = roots(net)
            self.assertEqual(found, sorted(set(found), key=lambda row: (sum(row), row)))
            self.assertTrue(all(form(net, row) == 1 and min(row) >= 0 for row in found))
            self.assertTrue(all(type(row) is tuple for row in found))

    def test_mirrored_row(self):
        self.assertEqual(mirrored_row(STAR, 3, (1, 1, 1, 1)), (1, 1, 1, 2))
        self.assertEqual(mirrored_row(net=PAIR, place=0, row=(5, 1)), (-3, 1))
        self.assertEqual(mirrored_row(ONE, 0, (4,)), (-4,))
        draw = drawn(26)
        for net in NETS:
            for place in range(net.places):
                row = tuple(draw.randrange(-9, 10) for _ in range(net.places))
                found = mirrored_row(net, place, row)
                self.assertEqual(mirrored_row(net, place, found), row)
                self.assertEqual(form(net, found), form(net, row))

    def test_roots_are_mirrored_to_roots(self):
        for net in GOOD:
            found = roots(net)
            for place in range(net.places):
                others = [row for row in found if row != tuple(int(k == place) for k in range(net.places))]
                mirrored = [mirrored_row(net, place, row) for row in others]
                self.assertEqual(sorted(mirrored), sorted(others))

    def test_highest(self):
        self.assertEqual(highest(net=STAR), (1, 1, 1, 2))
        self.assertEqual(sorted(highest(arms_net((1, 2, 4)))), [2, 2, 3, 3, 4, 4, 5, 6])
        for arms, _ in GOOD_ARMS:
            net = arms_net(arms)
            top = highest(net)
            self.assertEqual(top, roots(net)[-1])
            self.assertTrue(all(a >= b for row in roots(net) for a, b in zip(top, row)))

    def test_errors(self):
        for net in RINGS + FOUR_ENDS + WILD:
            for work in (roots, highest):
                with self.assertRaises(NotGood):
                    work(net)
        for place in (-1, 2, True, None, 0.0, "0"):
            with self.assertRaises(BadPlace):
                mirrored_row(STEP, place, None)
        for row in ([1, 1], (1,), (1, True), None):
            with self.assertRaises(BadRow):
                mirrored_row(STEP, 0, row)
        for work in (shape, roots, highest, lambda net: form(net, 1), lambda net: pair_form(net, 1, 2),
                     lambda net: is_shape(net, 1), lambda net: mirrored_row(net, None, None)):
            for net in (None, 1, (2, ((0, 1),)), "net"):
                with self.assertRaises(BadNet) as caught:
                    work(net)
                self.assertIsNone(caught.exception.part)

    def test_new_each_time(self):
        roots(CLASH).clear()
        self.assertEqual(len(roots(CLASH)), 6)
        self.assertEqual(len(roots(ARMS_SIX)), 36)


if __name__ == "__main__":
    unittest.main()
