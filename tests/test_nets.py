"""Point [20]: nets."""

import unittest
from itertools import product

from boughwebs.errors import BadNet
from boughwebs.nets import Net, is_tree, sink_order, sinks, sources, turned_net
from tests.drawn import NETS, ONE, PAIR, RING, SPREAD, STAR, STRAIGHT, drawn, drawn_net


def part_told(places, arrows):
    try:
        Net(places, arrows)
    except BadNet as error:
        return error.part
    return None


def fits_plainly(places, arrows):
    """Whether arrows hang together and lead nowhere back, by ways of all lengths."""
    led = [[tail == head for head in range(places)] for tail in range(places)]
    met = [list(line) for line in led]
    for tail, head in arrows:
        led[tail][head] = met[tail][head] = met[head][tail] = True
    for table in (led, met):
        for k, i, j in product(range(places), repeat=3):
            table[i][j] = table[i][j] or (table[i][k] and table[k][j])
    back = any(led[i][j] and led[j][i] for i in range(places) for j in range(i))
    return all(all(line) for line in met) and not back


class NetTest(unittest.TestCase):

    def test_attributes(self):
        net = Net(3, [(2, 1), (0, 1), (0, 1)])
        self.assertEqual(net.places, 3)
        self.assertEqual(net.arrows, ((2, 1), (0, 1), (0, 1)))
        self.assertIs(type(net.arrows), tuple)
        self.assertTrue(all(type(arrow) is tuple for arrow in net.arrows))
        self.assertEqual(Net(places=3, arrows=((2, 1), (0, 1), (0, 1))), net)
        self.assertEqual(Net(3, [[2, 1], [0, 1], (0, 1)]).arrows, net.arrows)

    def test_one_place(self):
        for arrows in ([], ()):
            self.assertEqual(Net(1, arrows).arrows, ())
        self.assertEqual((sinks(ONE), sources(ONE), is_tree(ONE), turned_net(ONE)), ([0], [0], True, ONE))
        for arrows in ([(0, 0)], [(0, 1)]):
            self.assertEqual(part_told(1, arrows), "arrows")

    def test_equal(self):
        self.assertEqual(Net(3, [(0, 1), (1, 2)]), STRAIGHT)
        self.assertFalse(Net(3, [(0, 1), (1, 2)]) != STRAIGHT)
        self.assertNotEqual(Net(3, [(1, 2), (0, 1)]), STRAIGHT)
        self.assertNotEqual(Net(2, [(0, 1)]), PAIR)
        for other in (None, 3, ((0, 1), (1, 2)), (3, ((0, 1), (1, 2))), "net"):
            self.assertFalse(STRAIGHT == other)
            self.assertTrue(STRAIGHT != other)

    def test_what_is_handed_in_stays(self):
        arrows = [(0, 1), (1, 2)]
        net = Net(3, arrows)
        arrows.append((0, 2))
        self.assertEqual(net, STRAIGHT)

    def test_limits(self):
        self.assertIsNone(part_told(8, [(k, k + 1) for k in range(7)]))
        self.assertEqual(part_told(9, [(k, k + 1) for k in range(8)]), "places")
        self.assertIsNone(part_told(2, [(0, 1)] * 12))
        self.assertEqual(part_told(2, [(0, 1)] * 13), "arrows")
        self.assertEqual(len(Net(2, [(1, 0)] * 12).arrows), 12)

    def test_wrong_places(self):
        for places in (0, -1, 9, True, None, 2.0, "2", [2], 10 ** 30):
            self.assertEqual(part_told(places, [(0, 1)]), "places")
            self.assertEqual(part_told(places, None), "places")

    def test_wrong_arrows(self):
        for arrows in (None, 3, "ab", {}, {(0, 1): 1}, {(0, 1)}, (0, 1), [0, 1], [(0, 1, 1)], [(0,)], [None], ["01"],
                       [(0, 2)], [(2, 0)], [(2, 1)], [(-1, 1)], [(0, True)], [(False, 1)], [(0, 1.0)], [(0, None)],
                       [(1, 1)],
                       [(0, 1), (1, 1)], [{0: 1, 1: 0}], STRAIGHT):
            self.assertEqual(part_told(2, arrows), "arrows")

    def test_what_does_not_hang_together(self):
        self.assertEqual(part_told(2, []), "arrows")
        self.assertEqual(part_told(3, [(0, 1)]), "arrows")
        self.assertEqual(part_told(4, [(0, 1), (2, 3)]), "arrows")
        self.assertEqual(part_told(4, [(0, 1), (2, 3), (0, 1)]), "arrows")
        self.assertIsNone(part_told(4, [(0, 1), (2, 3), (0, 3)]))

    def test_what_leads_back(self):
        self.assertEqual(part_told(2, [(0, 1), (1, 0)]), "arrows")
        self.assertEqual(part_told(3, [(0, 1), (1, 2), (2, 0)]), "arrows")
        self.assertEqual(part_told(4, [(3, 0), (0, 1), (1, 2), (2, 0)]), "arrows")
        self.assertIsNone(part_told(3, [(0, 1), (1, 2), (0, 2)]))

    def test_all_small_nets(self):
        for places, most in ((2, 3), (3, 3)):
            ends = [(a, b) for a in range(places) for b in range(places) if a != b]
            for many in range(most + 1):
                for arrows in product(ends, repeat=many):
                    self.assertEqual(part_told(places, arrows) is None, fits_plainly(places, arrows))

    def test_drawn_arrows(self):
        draw = drawn(11)
        seen = set()
        for _ in range(300):
            places = draw.randrange(4, 9)
            arrows = [tuple(draw.sample(range(places), 2)) for _ in range(draw.randrange(places - 1, places + 2))]
            fits = fits_plainly(places, arrows)
            seen.add(fits)
            self.assertEqual(part_told(places, arrows), None if fits else "arrows")
        self.assertEqual(seen, {True, False})


class EndsTest(unittest.TestCase):

    def test_sinks_and_sources(self):
        self.assertEqual((sinks(STRAIGHT), sources(STRAIGHT)), ([2], [0]))
        self.assertEqual((sinks(SPREAD), sources(SPREAD)), ([0, 2], [1]))
        self.assertEqual((sinks(net=STAR), sources(net=STAR)), ([3], [0, 1, 2]))
        self.assertEqual((sinks(RING), sources(RING)), ([2], [0]))
        net = Net(6, [(5, 3), (4, 3), (5, 1), (4, 0), (2, 0)])
        self.assertEqual((sinks(net), sources(net)), ([0, 1, 3], [2, 4, 5]))

    def test_is_tree(self):
        self.assertEqual([is_tree(net) for net in (ONE, STRAIGHT, STAR)], [True, True, True])
        self.assertEqual([is_tree(net=net) for net in (PAIR, RING)], [False, False])

    def test_turned(self):
        self.assertEqual(turned_net(net=Net(3, [(2, 1), (0, 1)])), Net(3, [(1, 2), (1, 0)]))
        draw = drawn(12)
        for net in NETS + [drawn_net(draw, draw.randrange(1, 9), draw.randrange(13)) for _ in range(30)]:
            turned = turned_net(net)
            self.assertEqual(turned_net(turned), net)
            self.assertEqual((sinks(turned), sources(turned)), (sources(net), sinks(net)))
            self.assertEqual(is_tree(turned), is_tree(net))

    def test_new_lists(self):
        for work in (sinks, sources):
            work(STAR).append(7)
            self.assertNotIn(7, work(STAR))

    def test_no_net(self):
        for work in (sinks, sources, is_tree, turned_net):
            for thing in (None, 3, (2, ((0, 1),)), [], "net"):
                with self.assertRaises(BadNet) as caught:
                    work(thing)
                self.assertIsNone(caught.exception.part)

    def test_sink_order(self):
        self.assertEqual(sink_order(STRAIGHT), [2, 1, 0])
        self.assertEqual(sink_order(STAR), [3, 0, 1, 2])
        self.assertEqual(sink_order(SPREAD), [0, 2, 1])


if __name__ == "__main__":
    unittest.main()
