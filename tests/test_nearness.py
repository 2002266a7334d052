"""Point [113]: straight nets, pairings, barriers, distances, bars between."""

import unittest

from boughwebs.nearness import (bars_between, barrier, distance, is_barrier, is_pairing, pairing, straight_net)
from boughwebs.nets import Net
from tests.drawn import check_order, drawn, error_of, of_other_kinds

WRONG_BARS = [(None, None), ([(0, 1)], None), (((0, 1), None), 1), (((1, 1), (0, 1)), 1), (((0, 8),), 0),
              (((0, True),), 0), (([0, 1],), 0), ({}, None), (((2, 1),), 0), (((0, 0),) * 41, None),
              (((1, 1),) * 41 + ((0, 0),), 41)]
WRONG_STEPS = [None, -1, 9, True, 1.0, "1"]


def drawn_bars(draw, most, last=7):
    found = []
    for _ in range(draw.randrange(most + 1)):
        start = draw.randrange(last + 1)
        found.append((start, draw.randrange(start, last + 1)))
    return tuple(sorted(found))


def near(one, other, step):
    return abs(one[0] - other[0]) <= step and abs(one[1] - other[1]) <= step


def is_short(bar, step):
    return bar[1] - bar[0] + 1 <= 2 * step


def can_pair(one, other, step):
    """Whether there is a pairing, found by trying all."""
    if not one:
        return all(is_short(bar, step) for bar in other)
    first, rest = one[0], one[1:]
    if is_short(first, step) and can_pair(rest, other, step):
        return True
    return any(near(first, bar, step) and can_pair(rest, other[:k] + other[k + 1:], step)
               for k, bar in enumerate(other))


def is_pairing_plainly(one, other, step, thing):
    left, right = list(one), list(other)
    for first, second in thing:
        if first not in left or second not in right or not near(first, second, step):
            return False
        left.remove(first)
        right.remove(second)
    return all(is_short(bar, step) for bar in left + right)


def is_barrier_plainly(one, other, step, side, some):
    own, across = (one, other) if side == 0 else (other, one)
    if not some or any(some.count(bar) > own.count(bar) or is_short(bar, step) for bar in some):
        return False
    return sum(any(near(bar, first, step) for first in some) for bar in across) < len(some)


def drawn_two(seed, many, most=5):
    draw = drawn(seed)
    for _ in range(many):
        one, other = drawn_bars(draw, most), drawn_bars(draw, most)
        if draw.random() < 0.4:
            # Near ones, so that many steps have a pairing.
            other = tuple(sorted((max(0, a - draw.randrange(2)), min(7, b + draw.randrange(2))) for a, b in one))
        yield draw, one, other


class StraightTest(unittest.TestCase):

    def test_straight_net(self):
        for places in range(1, 9):
            self.assertEqual(straight_net(places=places), Net(places, [(k, k + 1) for k in range(places - 1)]))
        for wrong in (None, 0, 9, -1, True, 2.0, "2"):
            self.assertEqual(error_of(straight_net, wrong), ("BadNumber", "places"))


class PairingTest(unittest.TestCase):

    def test_just_one_of_both(self):
        seen = {True: 0, False: 0}
        for _, one, other in drawn_two(1131, 400):
            for step in range(9):
                pairs = pairing(one=one, other=other, step=step)
                bar = barrier(one=one, other=other, step=step)
                told = can_pair(one, other, step)
                self.assertIs(pairs is not None, told)
                self.assertIs(bar is None, told)
                seen[told] += 1
                if told:
                    self.assertIs(is_pairing(one=one, other=other, step=step, thing=pairs), True)
                    self.assertTrue(is_pairing_plainly(one, other, step, pairs))
                    self.assertEqual(pairs, tuple(sorted(pairs)))
                else:
                    self.assertIs(is_barrier(one=one, other=other, step=step, thing=bar), True)
                    self.assertTrue(is_barrier_plainly(one, other, step, *bar))
        self.assertGreater(min(seen.values()), 500)

    def test_pairings_judged(self):
        for draw, one, other in drawn_two(1132, 150):
            step = draw.randrange(4)
            found = pairing(one, other, step)
            if found is not None:
                for thing in of_other_kinds(found):
                    self.assertIs(is_pairing(one, other, step, thing), False)
                self.assertIs(is_pairing(one, other, step, found[::-1]), found == found[::-1])
            for _ in range(20):
                thing = tuple(sorted((draw.choice(one), draw.choice(other)) for _ in range(draw.randrange(4))
                                     if one and other))
                self.assertIs(is_pairing(one, other, step, thing), is_pairing_plainly(one, other, step, thing))

    def test_pairings_by_hand(self):
        one, other = ((0, 3), (2, 2)), ((1, 3),)
        self.assertEqual(pairing(one, other, 1), (((0, 3), (1, 3)),))
        self.assertIs(is_pairing(one, other, 1, (((0, 3), (1, 3)),)), True)
        self.assertIs(is_pairing(one, other, 1, ()), False)
        self.assertIs(is_pairing(one, other, 1, (((0, 3), (1, 3)), ((0, 3), (1, 3)))), False)
        self.assertIs(is_pairing((), (), 0, ()), True)
        self.assertIs(is_pairing(((1, 2),), (), 1, ()), True)
        self.assertIs(is_pairing(((1, 3),), (), 1, ()), False)
        self.assertIs(is_pairing(((0, 7),), ((0, 7),), 0, (((0, 7), (0, 7)),)), True)
        self.assertIs(is_pairing(((1, 1), (1, 1)), ((1, 1),), 0, (((1, 1), (1, 1)),)), False)
        # Pairs of bars that are not there, and what is no pair.
        self.assertIs(is_pairing((), (), 1, (((1, 1), (1, 1)),)), False)
        self.assertIs(is_pairing(one, other, 1, (((0, 2), (1, 3)), ((0, 3), (1, 3)))), False)
        self.assertIs(is_pairing(one, other, 1, (((0, 3), (0, 3)), ((0, 3), (1, 3)))), False)
        self.assertIs(is_pairing(one, other, 1, (((0, 3), (1, 3), (1, 3)),)), False)
        self.assertIs(is_pairing(one, other, 1, (((0, 3),),)), False)
        self.assertIs(is_pairing(((0, 7),), ((0, 7),), 1, (((0, 7), (0, 8)),)), False)

    def test_barriers_judged(self):
        seen = {True: 0, False: 0}
        for draw, one, other in drawn_two(1133, 150):
            step = draw.randrange(3)
            found = barrier(one, other, step)
            if found is not None:
                for thing in of_other_kinds(found):
                    self.assertIs(is_barrier(one, other, step, thing), False)
            for side, own in ((0, one), (1, other)):
                for _ in range(10):
                    some = tuple(sorted(draw.choice(own) for _ in range(draw.randrange(4)) if own))
                    told = is_barrier_plainly(one, other, step, side, some)
                    self.assertIs(is_barrier(one, other, step, (side, some)), told)
                    seen[told] += 1
            for thing in ((0, ()), (2, one), (-1, one), (0, one, None), (0,), 0):
                self.assertIs(is_barrier(one, other, step, thing), False)
        self.assertGreater(min(seen.values()), 50)

    def test_barriers_by_hand(self):
        self.assertEqual(barrier(((0, 2),), (), 1), (0, ((0, 2),)))
        self.assertEqual(barrier((), ((0, 2),), 1), (1, ((0, 2),)))
        self.assertIsNone(barrier((), ((0, 1),), 1))
        self.assertIs(is_barrier(((0, 2), (0, 2)), ((0, 2),), 0, (0, ((0, 2), (0, 2)))), True)
        self.assertIs(is_barrier(((0, 2), (0, 2)), ((0, 2),), 0, (0, ((0, 2),))), False)
        self.assertIs(is_barrier(((0, 2), (0, 2)), ((0, 2),), 0, (0, ((0, 2),) * 3)), False)
        self.assertIs(is_barrier(((0, 2), (0, 3)), (), 0, (0, ((0, 3), (0, 2)))), False)
        for side, told in ((0, False), (1, True), (2, False), (-1, False), (True, False), (None, False)):
            self.assertIs(is_barrier((), ((0, 2),), 1, (side, ((0, 2),))), told)
        self.assertIs(is_barrier(((0, 2),), (), 1, (0, ((0, 3),))), False)

    def test_errors_in_their_order(self):
        good = {"one": ((0, 1), (2, 3)), "other": ((0, 1), (2, 2)), "step": 1}
        for bars, at in WRONG_BARS:
            for step in WRONG_STEPS:
                steps = [("one", bars, ("BadBars", at)), ("other", bars, ("BadBars", at)),
                         ("step", step, ("BadNumber", "step"))]
                for work in (pairing, barrier):
                    check_order(self, work, good, steps)
                for work in (is_pairing, is_barrier):
                    check_order(self, work, {**good, "thing": None}, steps)
        self.assertIsNone(error_of(pairing, ((0, 0),) * 40, ((7, 7),) * 40, 8))


class DistanceTest(unittest.TestCase):

    def test_distance(self):
        for draw, one, other in drawn_two(1134, 300):
            found = distance(one=one, other=other)
            told = [step for step in range(9) if can_pair(one, other, step)]
            self.assertEqual(found, told[0])
            self.assertEqual(told, list(range(found, 9)))
            self.assertLessEqual(found, 4)
            self.assertEqual(distance(other, one), found)
            self.assertIs(found == 0, one == other)
            third = drawn_bars(draw, 5)
            self.assertLessEqual(found, distance(one, third) + distance(third, other))
            more = tuple(sorted(one + third)), tuple(sorted(other + third))
            self.assertLessEqual(distance(*more), found)

    def test_forty_bars(self):
        for draw, one, other in drawn_two(1135, 60, 40):
            found = distance(one, other)
            self.assertIsNotNone(pairing(one, other, found))
            if found:
                self.assertIsNotNone(barrier(one, other, found - 1))
        self.assertEqual(distance(((0, 7),) * 40, ()), 4)
        self.assertEqual(distance(((0, 6),) * 40, ()), 4)
        self.assertEqual(distance(((0, 5),), ()), 3)

    def test_bars_between(self):
        for draw, one, other in drawn_two(1136, 200):
            whole = distance(one, other)
            for part in range(whole + 1):
                found = bars_between(one=one, other=other, part=part)
                self.assertIs(type(found), tuple)
                self.assertEqual(found, tuple(sorted(found)))
                self.assertEqual(distance(one, found), part)
                self.assertEqual(distance(found, other), whole - part)
                if found:
                    self.assertGreaterEqual(min(bar[0] for bar in found), min(bar[0] for bar in one + other))
                    self.assertLessEqual(max(bar[1] for bar in found), max(bar[1] for bar in one + other))
                self.assertEqual(bars_between(one, other, part), found)
            self.assertEqual(bars_between(one, other, 0), one)
            self.assertEqual(bars_between(one, other, whole), other)
            self.assertEqual(error_of(bars_between, one, other, whole + 1), ("BadNumber", "part"))

    def test_up_to_eighty_between(self):
        # Of all bars that are not paired half is left.
        one, other = ((0, 2),) * 40, ((5, 7),) * 40
        self.assertEqual(distance(one, other), 2)
        found = bars_between(one, other, 1)
        self.assertEqual(found, ((1, 1),) * 40 + ((6, 6),) * 40)
        for _, one, other in drawn_two(1137, 30, 40):
            for part in range(distance(one, other) + 1):
                self.assertLessEqual(len(bars_between(one, other, part)), 80)

    def test_errors_in_their_order(self):
        good = {"one": ((0, 3),), "other": ((0, 1), (2, 2))}
        for bars, at in WRONG_BARS:
            steps = [("one", bars, ("BadBars", at)), ("other", bars, ("BadBars", at))]
            check_order(self, distance, good, steps)
            for part in (None, -1, 5, True, 0.0):
                check_order(self, bars_between, {**good, "part": 1}, steps + [("part", part, ("BadNumber", "part"))])


if __name__ == "__main__":
    unittest.main()
