"""Points [40] and [41]: kinds on good nets."""

import sys
import unittest
from itertools import product

from boughwebs.errors import BadKind, BadNet, BadRow, NotGood, TooMany
from boughwebs.kinds import (general_kind, is_general, is_kind, joinings_of_kinds, kind_row, kinds_of, maps_of_kinds,
                             sum_kind)
from boughwebs.maps import count_maps
from boughwebs.mirrors import point_web
from boughwebs.nets import Net
from boughwebs.roots import pair_form, roots
from boughwebs.tables import plain
from boughwebs.webs import Web, sum_of
from tests.drawn import (ARMS_SIX, CLASH, GOOD, ONE, PAIR, RING, STAR, STEP, STRAIGHT, arms_net, drawn, drawn_kind,
                         renamed)


def as_tuple(kind):
    return tuple(sorted(kind.items()))


def plain_kinds(net, row):
    """All kinds of a row, found by trying each root so often as the greatest number there."""
    found = []
    everything = roots(net)
    for many in product(range(max(row) + 1), repeat=len(everything)):
        if all(sum(k * root[at] for k, root in zip(many, everything)) == row[at] for at in range(net.places)):
            found.append({root: k for k, root in zip(many, everything) if k})
    return sorted(found, key=as_tuple)


def plain_counts(net, most):
    """How many kinds each row up to most has, the roots taken one after another."""
    counts = {row: 0 for row in product(*[range(number + 1) for number in most])}
    counts[(0,) * net.places] = 1
    for root in roots(net):
        for row in sorted(counts):
            less = tuple(a - b for a, b in zip(row, root))
            counts[row] += counts.get(less, 0)
    return counts


def least_webs_of_step(prime):
    """The least webs of the net of one arrow, by hand."""
    return {(1, 0): point_web(STEP, prime, 0), (0, 1): point_web(STEP, prime, 1),
            (1, 1): Web(STEP, prime, (1, 1), [plain(prime, 1)])}


class KindTest(unittest.TestCase):

    def test_is_kind(self):
        for thing in ({}, {(1, 1): 1}, {(1, 0): 10 ** 30, (0, 1): 2}):
            self.assertIs(is_kind(STEP, thing), True)
        self.assertIs(is_kind(net=STEP, thing={(1, 1): 1}), True)
        for thing in (None, 3, [], (), [((1, 1), 1)], (((1, 1), 1),), {(1, 1): 0}, {(1, 1): -1}, {(1, 1): True},
                      {(1, 1): 1.0}, {(1, 1): "1"}, {(1, 1): None}, {(2, 1): 1}, {(0, 0): 1}, {(1,): 1}, {(1, 1, 0): 1},
                      {(-1, 0): 1}, {(1, True): 1}, {(1.0, 1): 1}, {1: 1}, {"11": 1}, {None: 1}, {(1, 1): 1, (2, 2): 1},
                      {(1, 1)}, STEP, "kind"):
            self.assertIs(is_kind(STEP, thing), False)
        self.assertIs(is_kind(ONE, {(True,): 1}), False)

    def test_just_the_roots(self):
        for net in (STRAIGHT, STAR):
            for row in product(range(-1, 4), repeat=net.places):
                self.assertIs(is_kind(net, {row: 1}), row in roots(net))

    def test_kind_row(self):
        self.assertEqual(kind_row(STEP, {}), (0, 0))
        self.assertEqual(kind_row(net=STEP, kind={(1, 1): 2, (0, 1): 3}), (2, 5))

    def test_sum_kind(self):
        one, other = {(1, 1): 2, (0, 1): 3}, {(1, 0): 1, (0, 1): 1}
        found = sum_kind(STEP, [one, other])
        self.assertEqual(found, {(0, 1): 4, (1, 0): 1, (1, 1): 2})
        self.assertEqual(list(found), sorted(found))
        self.assertEqual(sum_kind(net=STEP, kinds=(one,)), one)
        self.assertEqual(list(sum_kind(STEP, [one])), [(0, 1), (1, 1)])
        self.assertEqual(sum_kind(STEP, [{}, {}]), {})
        self.assertEqual(one, {(1, 1): 2, (0, 1): 3})
        alone = sum_kind(STEP, [one])
        alone.clear()
        self.assertEqual(len(one), 2)
        for kinds in (None, 3, [], (), {}, {(1, 1): 1}, [one, None], [{(2, 2): 1}], [[one]]):
            with self.assertRaises(BadKind):
                sum_kind(STEP, kinds)

    def test_kinds_of_by_hand(self):
        self.assertEqual(kinds_of(STEP, (1, 1)), [{(0, 1): 1, (1, 0): 1}, {(1, 1): 1}])
        self.assertEqual(kinds_of(net=STEP, row=(0, 0)), [{}])
        self.assertEqual(kinds_of(STEP, (2, -1)), [])
        self.assertEqual(kinds_of(STEP, (-1, -1)), [])
        self.assertEqual(kinds_of(ONE, (-1,)), [])
        self.assertEqual(kinds_of(ONE, (10 ** 20,)), [{(1,): 10 ** 20}])

    def test_kinds_of_against_all_sums(self):
        for net, rows in ((ONE, [(3,)]), (STEP, list(product(range(4), repeat=2))),
                          (STRAIGHT, list(product(range(3), repeat=3))), (CLASH, [(1, 2, 1), (2, 2, 2), (0, 2, 1)]),
                          (STAR, [(1, 1, 1, 1), (1, 0, 1, 1)])):
            for row in rows:
                self.assertEqual(kinds_of(net, row), plain_kinds(net, row))

    def test_kinds_of_order_and_rows(self):
        for net, row in ((STAR, (2, 1, 2, 3)), (ARMS_SIX, (1, 1, 2, 1, 1, 1)), (STRAIGHT, (4, 5, 4))):
            found = kinds_of(net, row)
            told = [tuple(kind.items()) for kind in found]
            self.assertEqual(told, sorted(set(told)))
            self.assertTrue(all(list(kind) == sorted(kind) for kind in found))
            self.assertTrue(all(is_kind(net, kind) and kind_row(net, kind) == row for kind in found))

    def test_too_many_kinds(self):
        self.assertEqual(len(kinds_of(STEP, (2999, 5000))), 3000)
        for net, row in ((STEP, (3000, 3000)), (STEP, (10 ** 30, 10 ** 30)), (arms_net((1, 2, 4)), (10 ** 9,) * 8)):
            with self.assertRaises(TooMany) as caught:
                kinds_of(net, row)
            self.assertEqual(caught.exception.most, 3000)
        self.assertEqual(kinds_of(STEP, (10 ** 30, -1)), [])

    def test_too_many_at_rows_of_lines(self):
        four, six = [Net(places, [(k, k + 1) for k in range(places - 1)]) for places in (4, 6)]
        for net, row in ((four, (9,) * 4), (four, (30,) * 4), (six, (9,) * 6), (STEP, (3000, 3000))):
            with self.assertRaises(TooMany) as caught:
                kinds_of(net, row)
            self.assertEqual(caught.exception.most, 3000)
        found = kinds_of(STEP, (2999, 2999))
        told = [(((0, 1), 2999 - k), ((1, 0), 2999 - k), ((1, 1), k)) for k in range(3000)]
        told = sorted(tuple(pair for pair in pairs if pair[1]) for pairs in told)
        self.assertEqual([tuple(kind.items()) for kind in found], told)

    def test_too_many_are_known_before_they_are_made(self):
        line = Net(4, [(0, 1), (1, 2), (2, 3)])
        for row in ((9,) * 4, (30,) * 4, (10 ** 6,) * 4):
            calls = []
            sys.setprofile(lambda frame, event, told: calls.append(event) if event == "call" else None)
            try:
                with self.assertRaises(TooMany):
                    kinds_of(line, row)
            finally:
                sys.setprofile(None)
            self.assertLess(len(calls), 1500)

    def test_as_many_as_there_are(self):
        draw = drawn(65)
        below = above = 0
        for net in [STEP, STRAIGHT, CLASH, STAR] + [renamed(draw, arms_net(arms)) for arms in ((3,), (4,), (1, 1, 2))]:
            counts = plain_counts(net, (6,) * net.places)
            for row in draw.sample(sorted(counts), min(len(counts), 40)):
                if counts[row] <= 3000:
                    self.assertEqual(len(kinds_of(net, row)), counts[row])
                    below += counts[row] > 1000
                else:
                    self.assertRaises(TooMany, kinds_of, net, row)
                    above += counts[row] < 6000
        self.assertGreater(below, 3)
        self.assertGreater(above, 3)

    def test_forms_of_kinds_by_hand(self):
        one, other = {(1, 0): 2, (1, 1): 1}, {(0, 1): 3, (1, 0): 5}
        self.assertEqual(maps_of_kinds(STEP, one, other), 2 * 5 + 5)
        self.assertEqual(joinings_of_kinds(STEP, one, other), 2 * 3)
        self.assertEqual(maps_of_kinds(net=STEP, one={}, other=other), 0)
        self.assertEqual(joinings_of_kinds(net=STEP, one=one, other={}), 0)

    def test_forms_of_kinds(self):
        draw = drawn(61)
        for net in GOOD:
            for _ in range(10):
                one, other = drawn_kind(draw, net, 3), drawn_kind(draw, net, 3)
                there, joined = maps_of_kinds(net, one, other), joinings_of_kinds(net, one, other)
                self.assertEqual(there - joined, pair_form(net, kind_row(net, one), kind_row(net, other)))
                values = [(a * b, pair_form(net, r, s)) for r, a in one.items() for s, b in other.items()]
                self.assertEqual(there, sum(many * value for many, value in values if value > 0))

    def test_maps_between_webs_of_kinds(self):
        draw = drawn(62)
        for prime in (2, 5):
            least = least_webs_of_step(prime)
            for _ in range(20):
                one, other = drawn_kind(draw, STEP, 3), drawn_kind(draw, STEP, 3)
                webs = [[least[root] for root in kind for _ in range(kind[root])] for kind in (one, other)]
                if webs[0] and webs[1]:
                    found = count_maps(sum_of(webs[0]), sum_of(webs[1]))
                    self.assertEqual(found, maps_of_kinds(STEP, one, other))


class GeneralTest(unittest.TestCase):

    def test_by_hand(self):
        self.assertEqual(general_kind(STEP, (1, 1)), {(1, 1): 1})
        self.assertEqual(general_kind(net=STEP, row=(5, 2)), {(1, 0): 3, (1, 1): 2})
        self.assertEqual(general_kind(STEP, (0, 0)), {})
        self.assertEqual(general_kind(ONE, (7,)), {(1,): 7})
        self.assertEqual(general_kind(CLASH, (1, 1, 1)), {(1, 1, 1): 1})
        self.assertEqual(general_kind(CLASH, (1, 2, 1)), {(0, 1, 1): 1, (1, 1, 0): 1})
        self.assertEqual(general_kind(STAR, (1, 1, 1, 2)), {(1, 1, 1, 2): 1})

    def test_among_all_kinds_of_the_row(self):
        draw = drawn(63)
        nets = GOOD + [renamed(draw, arms_net(arms)) for arms in ((1, 1, 2), (3, 1, 1), (1, 2, 2), (4,), (2, 3))]
        for net in nets:
            for _ in range(4):
                row = tuple(draw.randrange(3) for _ in range(net.places))
                kinds = kinds_of(net, row)
                found = general_kind(net, row)
                self.assertIn(found, kinds)
                self.assertEqual(list(found), sorted(found))
                own = maps_of_kinds(net, found, found)
                for kind in kinds:
                    self.assertIs(is_general(net, kind), kind == found)
                    self.assertEqual(joinings_of_kinds(net, kind, kind) == 0, kind == found)
                    if kind != found:
                        self.assertGreater(maps_of_kinds(net, kind, kind), own)

    def test_great_rows(self):
        draw = drawn(64)
        for arms in ((7,), (1, 1, 5), (1, 2, 4), (1, 2, 3)):
            net = renamed(draw, arms_net(arms))
            for most in (1, 9, 10 ** 40):
                row = tuple(draw.randrange(most + 1) for _ in range(net.places))
                found = general_kind(net, row)
                self.assertEqual(kind_row(net, found), row)
                self.assertTrue(is_general(net, found))
            for root in roots(net):
                self.assertEqual(general_kind(net, root), {root: 1})

    def test_is_general(self):
        self.assertIs(is_general(net=STEP, kind={}), True)
        self.assertIs(is_general(STEP, {(0, 1): 1, (1, 0): 1}), False)
        self.assertIs(is_general(STEP, {(0, 1): 2, (1, 1): 1}), True)


class KindErrorsTest(unittest.TestCase):

    def test_bad_rows(self):
        for row in ([1, 1], (1,), (1, True), None, "11", (1, 1, 1), (1.0, 1)):
            for work in (kinds_of, general_kind):
                with self.assertRaises(BadRow):
                    work(STEP, row)
        for row in ((-1, 0), (3, -1)):
            with self.assertRaises(BadRow):
                general_kind(STEP, row)

    def test_bad_kinds(self):
        good = {(1, 1): 1}
        for kind in (None, [], {(2, 2): 1}, {(1, 1): 0}, {(1, 1): True}, (((1, 1), 1),)):
            for work in (lambda: kind_row(STEP, kind), lambda: is_general(STEP, kind),
                         lambda: maps_of_kinds(STEP, kind, good), lambda: maps_of_kinds(STEP, good, kind),
                         lambda: joinings_of_kinds(STEP, kind, good), lambda: joinings_of_kinds(STEP, good, kind)):
                with self.assertRaises(BadKind):
                    work()

    def test_nets(self):
        works = (is_kind, kind_row, kinds_of, sum_kind, general_kind, is_general,
                 lambda net, thing: maps_of_kinds(net, thing, thing),
                 lambda net, thing: joinings_of_kinds(net, thing, thing))
        for work in works:
            for net in (PAIR, RING):
                with self.assertRaises(NotGood):
                    work(net, None)
            for net in (None, 3, ("line", 2), "net"):
                with self.assertRaises(BadNet) as caught:
                    work(net, None)
                self.assertIsNone(caught.exception.part)


if __name__ == "__main__":
    unittest.main()
