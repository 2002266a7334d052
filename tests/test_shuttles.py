"""Points [114], [115], [116]: shuttles between straight webs, the pairs that maps lay beside one another, ranks."""

import unittest

from boughwebs.bars import bars_of, long_rank, web_of_bars
from boughwebs.bends import bends
from boughwebs.maps import behind, is_map, kernel_web, rest_web
from boughwebs.nearness import distance, is_pairing, pairing, straight_net
from boughwebs.nets import Net
from boughwebs.shuttles import (is_shuttle, led_pairs, nearness, onward, rank_rows, shifted, shifted_map, shuttle)
from boughwebs.solving import rank
from boughwebs.splits import kind_of
from boughwebs.tables import Table, empty, plain, scaled, times
from boughwebs.webs import Web, bare
from tests.drawn import (CLASH, ONE, PAIR, STEP, STRAIGHT, check_order, drawn, drawn_map, drawn_sizes, drawn_web,
                         error_of, of_other_kinds, turned_about, with_one_otherwise)
from tests.test_nearness import WRONG_STEPS

NOT_STRAIGHT = [None, 3, STRAIGHT, (), bare(CLASH, 3, (1, 1, 1)), bare(PAIR, 3, (1, 1)),
                bare(Net(3, [(1, 2), (0, 1)]), 3, (1, 1, 1)), bare(Net(2, [(1, 0)]), 3, (1, 1))]


def straight_webs(seed, many=1, most=3):
    draw = drawn(seed)
    for places in range(1, 9):
        for _ in range(many):
            net, prime = straight_net(places), draw.choice((2, 3, 97))
            yield draw, drawn_web(draw, net, prime, drawn_sizes(draw, net, most), draw.choice((0.4, 0.9)))


def straight_pairs(seed, many=1, most=3):
    """Two webs, often near to one another."""
    for draw, one in straight_webs(seed, many, most):
        other = drawn_web(draw, one.net, one.prime, drawn_sizes(draw, one.net, most))
        if draw.random() < 0.5:
            last = one.net.places - 1
            moved = [(max(0, a - draw.randrange(2)), min(last, b + draw.randrange(2))) for a, b in bars_of(one)]
            other = turned_about(draw, web_of_bars(one.net, one.prime, tuple(sorted(moved))))
        yield draw, one, other


def led_plainly(web, place, steps):
    """What leads along so many arrows; with empty rooms beyond the last place."""
    if place + steps >= web.net.places:
        return empty(web.prime, 0, web.sizes[place])
    found = plain(web.prime, web.sizes[place])
    for k in range(steps):
        found = times(web.tables[place + k], found)
    return found


class ShiftedTest(unittest.TestCase):

    def test_shifted(self):
        for draw, web in straight_webs(1141):
            for step in range(9):
                found = shifted(web=web, step=step)
                places = web.net.places
                self.assertEqual((found.net, found.prime), (web.net, web.prime))
                self.assertEqual(found.sizes, (web.sizes + (0,) * step)[step:step + places])
                for k in range(places - 1):
                    if k + step < places - 1:
                        self.assertEqual(found.tables[k], web.tables[k + step])
                told = tuple(sorted((max(a - step, 0), b - step) for a, b in bars_of(web) if b >= step))
                self.assertEqual(bars_of(found), told)
                if step == 0:
                    self.assertEqual(found, web)

    def test_onward(self):
        for draw, web in straight_webs(1142):
            for step in range(9):
                found = onward(web=web, step=step)
                self.assertIs(is_map(web, shifted(web, step), found), True)
                self.assertEqual(found, tuple(led_plainly(web, place, step) for place in range(web.net.places)))

    def test_shifted_map(self):
        for draw, one, other in straight_pairs(1143):
            mapping = drawn_map(draw, one, other)
            for step in range(9):
                found = shifted_map(one=one, other=other, mapping=mapping, step=step)
                self.assertIs(is_map(shifted(one, step), shifted(other, step), found), True)
                places = one.net.places
                self.assertEqual(found, (mapping + (empty(one.prime, 0, 0),) * step)[step:step + places])

    def test_errors_in_their_order(self):
        web = Web(STRAIGHT, 3, (1, 1, 1), [plain(3, 1)] * 2)
        unit = (plain(3, 1),) * 3
        both = [("other", bare(STRAIGHT, 5, (1, 1, 1)), ("OtherNet",))]
        for wrong in NOT_STRAIGHT:
            for step in WRONG_STEPS:
                for work in (shifted, onward):
                    check_order(self, work, {"web": web, "step": 1}, [("web", wrong, ("NotStraight",)),
                                                                      ("step", step, ("BadNumber", "step"))])
                ends = [("one", wrong, ("NotStraight",)), ("other", wrong, ("NotStraight",))] + both
                good = {"one": web, "other": web}
                check_order(self, shifted_map, {**good, "mapping": unit, "step": 1},
                            ends + [("mapping", list(unit), ("BadMaps",)), ("step", step, ("BadNumber", "step"))])
                check_order(self, shuttle, {**good, "step": 1}, ends + [("step", step, ("BadNumber", "step"))])
                check_order(self, is_shuttle, {**good, "step": 1, "thing": None},
                            ends + [("step", step, ("BadNumber", "step"))])
                check_order(self, nearness, good, ends)
                check_order(self, led_pairs, {**good, "step": 0, "there": unit},
                            ends + [("step", step, ("BadNumber", "step")), ("there", None, ("BadMaps",))])
            self.assertEqual(error_of(rank_rows, wrong), ("NotStraight",))
        self.assertEqual(error_of(nearness, web, bare(STEP, 3, (1, 1))), ("OtherNet",))
        # Maps from one to other, not to the shifted other.
        one, other = bare(STEP, 3, (1, 1)), bare(STEP, 3, (1, 2))
        right, wrong = (empty(3, 2, 1), empty(3, 0, 1)), (empty(3, 1, 1), empty(3, 2, 1))
        self.assertIsNone(error_of(led_pairs, one, other, 1, right))
        self.assertEqual(error_of(led_pairs, one, other, 1, wrong), ("BadMaps",))


class ShuttleTest(unittest.TestCase):

    def is_shuttle_plainly(self, one, other, step, there, back):
        if not is_map(one, shifted(other, step), there) or not is_map(other, shifted(one, step), back):
            return False
        for web, first, second in ((one, there, back), (other, back, there)):
            for place in range(web.net.places):
                led = empty(web.prime, 0, web.sizes[place])
                if place + 2 * step < web.net.places:
                    led = times(second[place + step], first[place])
                if led != led_plainly(web, place, 2 * step):
                    return False
        return True

    def test_shuttles(self):
        seen = {True: 0, False: 0}
        for draw, one, other in straight_pairs(1144, 4):
            bars, others = bars_of(one), bars_of(other)
            self.assertEqual(nearness(one=one, other=other), distance(bars, others))
            for step in range(6):
                found = shuttle(one=one, other=other, step=step)
                told = pairing(bars, others, step) is not None
                self.assertIs(found is not None, told)
                self.assertIs(nearness(one, other) <= step, told)
                seen[told] += 1
                if found is None:
                    continue
                self.assertIs(type(found), tuple)
                self.assertTrue(self.is_shuttle_plainly(one, other, step, *found))
                self.assertIs(is_shuttle(one=one, other=other, step=step, thing=found), True)
                self.assertEqual(shuttle(one, other, step), found)
                # The pairs that its first map lays beside one another are a pairing of this step.
                self.assertIs(is_pairing(bars, others, step, led_pairs(one, other, step, found[0])), True)
                self.assertIs(is_pairing(others, bars, step, led_pairs(other, one, step, found[1])), True)
        self.assertGreater(min(seen.values()), 20)

    def test_shuttles_judged(self):
        for draw, one, other in straight_pairs(1145, 2, 2):
            step = nearness(one, other)
            found = shuttle(one, other, step)
            for thing in of_other_kinds(found):
                self.assertIs(is_shuttle(one, other, step, thing), False)
            for k in (0, 1):
                for bent in list(with_one_otherwise(found[k]))[:12]:
                    thing = (bent, found[1]) if k == 0 else (found[0], bent)
                    self.assertIs(is_shuttle(one, other, step, thing),
                                  self.is_shuttle_plainly(one, other, step, *thing))
            if step < 8 and shifted(other, step) != shifted(other, step + 1):
                self.assertIs(is_shuttle(one, other, step + 1, found), False)
            noughts = tuple(tuple(scaled(table, 0) for table in mapping) for mapping in found)
            self.assertIs(is_shuttle(one, other, step, noughts), self.is_shuttle_plainly(one, other, step, *noughts))

    def test_many_bars(self):
        # More than 40 bars are no matter here.
        net = straight_net(3)
        one, other = web_of_bars(net, 2, ((0, 2),) * 50), web_of_bars(net, 2, ((0, 1),) * 50 + ((2, 2),) * 5)
        self.assertEqual(nearness(one, other), 1)
        self.assertIs(is_shuttle(one, other, 1, shuttle(one, other, 1)), True)
        self.assertIsNone(shuttle(one, other, 0))

    def test_one_place_and_empty_rooms(self):
        one, other = bare(ONE, 3, (2,)), bare(ONE, 3, (0,))
        self.assertEqual((nearness(one, one), nearness(one, other), nearness(other, other)), (0, 1, 0))
        self.assertEqual(shuttle(one, other, 1), ((empty(3, 0, 2),), (empty(3, 0, 0),)))
        self.assertIs(is_shuttle(one, one, 0, ((plain(3, 2),), (plain(3, 2),))), True)
        self.assertIs(is_shuttle(one, one, 0, ((plain(3, 2),), (scaled(plain(3, 2), 2),))), False)


class LedPairsTest(unittest.TestCase):

    def test_maps_with_step_0(self):
        seen = 0
        for draw, one, other in straight_pairs(1146, 6):
            bars, others = bars_of(one), bars_of(other)
            for _ in range(3):
                there = drawn_map(draw, one, other)
                found = led_pairs(one=one, other=other, step=0, there=there)
                self.assertIs(type(found), tuple)
                self.assertEqual(found, tuple(sorted(found)))
                rest = max([b - a + 1 for a, b in bars_of(rest_web(one, other, there)[0])], default=0)
                lost = max([b - a + 1 for a, b in bars_of(kernel_web(one, other, there)[0])], default=0)
                self.judged(bars, others, found, rest, lost)
                self.assertLessEqual(nearness(one, other), max(rest, lost))
                seen += len(found)
        self.assertGreater(seen, 100)

    def judged(self, bars, others, found, rest, lost):
        left, right = list(bars), list(others)
        for first, second in found:
            left.remove(first)
            right.remove(second)
            self.assertIn(first[0] - second[0], range(rest + 1))
            self.assertIn(first[1] - second[1], range(lost + 1))
        self.assertTrue(all(b - a + 1 <= lost for a, b in left))
        self.assertTrue(all(b - a + 1 <= rest for a, b in right))

    def test_by_hand(self):
        net = straight_net(3)
        one = web_of_bars(net, 3, ((1, 1), (1, 2)))
        other = web_of_bars(net, 3, ((0, 1), (1, 1)))
        # Both bars of one led onto those of other: the longest beside that which starts first.
        image = (empty(3, 1, 0), plain(3, 2), empty(3, 0, 1))
        self.assertEqual(led_pairs(one, other, 0, image), (((1, 1), (1, 1)), ((1, 2), (0, 1))))
        unit = tuple(plain(3, size) for size in one.sizes)
        self.assertEqual(led_pairs(one, one, 0, unit), (((1, 1), (1, 1)), ((1, 2), (1, 2))))
        self.assertEqual(led_pairs(other, one, 0, tuple(empty(3, b, a) for a, b in zip(other.sizes, one.sizes))), ())

    def test_with_a_step(self):
        for draw, web in straight_webs(1147):
            step = draw.randrange(1, 3)
            there = onward(web, step)
            found = led_pairs(web, web, step, there)
            # What leads on keeps the bars that are longer than the step, each laid beside itself.
            told = tuple((bar, bar) for bar in bars_of(web) if bar[1] - bar[0] >= step)
            self.assertEqual(found, told)
            self.assertEqual(behind(there, shifted_map(web, shifted(web, step), there, step))[0],
                             led_plainly(web, 0, 2 * step))


class RankRowsTest(unittest.TestCase):

    def test_ranks(self):
        for draw, web in straight_webs(1148, 2):
            found = rank_rows(web=web)
            places = web.net.places
            self.assertEqual(found, tuple(tuple(rank(led_plainly(web, start, stop - start))
                                                for stop in range(start, places)) for start in range(places)))
            self.assertEqual(found, tuple(tuple(long_rank(web, start, stop) for stop in range(start, places))
                                          for start in range(places)))

    def test_of_near_webs(self):
        for draw, one, other in straight_pairs(1149, 2):
            step = nearness(one, other)
            places = one.net.places
            for first, second in ((rank_rows(one), rank_rows(other)), (rank_rows(other), rank_rows(one))):
                for i in range(places):
                    for j in range(i, places):
                        inside = i - step >= 0 and j + step < places
                        told = second[i - step][j - i + 2 * step] if inside else 0
                        self.assertGreaterEqual(first[i][j - i], told)

    def test_bending(self):
        draw = drawn(1150)
        seen = {True: 0, False: 0}
        for _ in range(60):
            net = straight_net(draw.randrange(1, 5))
            sizes = drawn_sizes(draw, net, 2)
            one, other = [drawn_web(draw, net, 2, sizes, draw.choice((0.3, 0.9))) for _ in range(2)]
            ranks = [sum(rank_rows(web), ()) for web in (one, other)]
            told = all(a >= b for a, b in zip(*ranks))
            self.assertIs(bends(net, kind_of(one), kind_of(other)), told)
            seen[told] += 1
        self.assertGreater(min(seen.values()), 8)
        web = Web(STEP, 5, (2, 1), [Table(5, 1, 2, [[0, 3]])])
        self.assertEqual(rank_rows(web), ((2, 1), (1,)))


if __name__ == "__main__":
    unittest.main()
