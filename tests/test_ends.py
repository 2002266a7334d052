"""Point [112]: maps and joinings of bars, kinds, windows, mirrors."""

import unittest

from boughwebs.bars import bar_web, bars_of, line_order, threads, web_of_bars
from boughwebs.ends import bar_joinings, bar_maps, bars_of_kind, kind_of_bars, mirrored_bars, window
from boughwebs.joinings import count_joinings
from boughwebs.kinds import is_kind
from boughwebs.maps import count_maps
from boughwebs.mirrors import mirrored
from boughwebs.nets import Net, sinks, sources
from boughwebs.roots import pair_form
from boughwebs.splits import kind_of
from boughwebs.webs import bare
from tests.drawn import PAIR, STAR, STEP, STRAIGHT, check_order, drawn, drawn_kind, drawn_sizes, drawn_web, error_of
from tests.test_bars import NO_LINES, all_bars, drawn_bars, lines

WRONG_BARS = [(None, None), ([(0, 1)], None), (((0, 1), None), 1), (((1, 1), (0, 1)), 1), (((0, 2),), 0),
              (((0, True),), 0), (([0, 1],), 0), ({}, None)]


class MapsTest(unittest.TestCase):

    def test_all_bars_of_small_lines(self):
        for net in [line for line in lines(1121, 4) if line.places < 6]:
            for one in all_bars(net):
                for other in all_bars(net):
                    webs = [bar_web(net, 3, bar) for bar in (one, other)]
                    many = bar_maps(net=net, one=one, other=other)
                    self.assertEqual(many, count_maps(*webs))
                    found = bar_joinings(net=net, one=one, other=other)
                    self.assertEqual(found, count_joinings(*webs))
                    self.assertEqual(found, many - pair_form(net, webs[0].sizes, webs[1].sizes))
                    self.assertIn(found, (0, 1))
                    self.assertEqual(many * found, 0)

    def test_by_hand(self):
        # Along (0, 1), (1, 2) bars lead to those that start and stop no later, with a spot in common.
        self.assertEqual(bar_maps(STRAIGHT, (1, 2), (0, 1)), 1)
        self.assertEqual(bar_maps(STRAIGHT, (0, 1), (1, 2)), 0)
        self.assertEqual(bar_maps(STRAIGHT, (1, 1), (2, 2)), 0)
        self.assertEqual(bar_joinings(STRAIGHT, (0, 0), (1, 1)), 1)
        self.assertEqual(bar_joinings(STRAIGHT, (1, 1), (0, 0)), 0)

    def test_errors_in_their_order(self):
        for work in (bar_maps, bar_joinings):
            for wrong in NO_LINES:
                for bar in ((1, 0), (0, 2), [0, 1], None, (0, True), (0,)):
                    check_order(self, work, {"net": STEP, "one": (0, 0), "other": (0, 1)}, [
                        ("net", wrong, ("NotLine",)), ("one", bar, ("BadBar",)), ("other", bar, ("BadBar",))])


class KindsTest(unittest.TestCase):

    def test_there_and_back(self):
        draw = drawn(1122)
        for net in lines(1123):
            bars = drawn_bars(draw, net, 8)
            kind = kind_of_bars(net=net, bars=bars)
            self.assertIs(is_kind(net, kind), True)
            self.assertEqual(list(kind), sorted(kind))
            self.assertEqual(kind, kind_of(web_of_bars(net, 2, bars)))
            self.assertEqual(bars_of_kind(net=net, kind=kind), bars)
            kind = drawn_kind(draw, net)
            bars = bars_of_kind(net, kind)
            self.assertEqual(kind_of_bars(net, bars), kind)
            self.assertEqual(bars, tuple(sorted(bars)))
        self.assertEqual((kind_of_bars(STEP, ()), bars_of_kind(STEP, {})), ({}, ()))

    def test_300_bars(self):
        self.assertEqual(bars_of_kind(STEP, {(1, 1): 299, (0, 1): 1}), ((0, 1),) * 299 + ((1, 1),))
        self.assertEqual(error_of(bars_of_kind, STEP, {(1, 1): 299, (0, 1): 2}), ("TooMany", 300))
        self.assertEqual(kind_of_bars(STEP, ((0, 1),) * 301), {(1, 1): 301})

    def test_errors_in_their_order(self):
        for wrong in NO_LINES:
            for bars, at in WRONG_BARS:
                check_order(self, kind_of_bars, {"net": STEP, "bars": ((0, 1),)}, [
                    ("net", wrong, ("NotLine",)), ("bars", bars, ("BadBars", at))])
            for kind in (None, [], {(1, 1): 0}, {(2, 1): 1}, {(1, 1): True}):
                check_order(self, bars_of_kind, {"net": STEP, "kind": {(1, 1): 2}}, [
                    ("net", wrong, ("NotLine",)), ("kind", kind, ("BadKind",))])
        self.assertEqual(error_of(bars_of_kind, STEP, {(1, 1): 301, (2, 2): 1}), ("BadKind",))


class WindowTest(unittest.TestCase):

    def test_windows(self):
        draw = drawn(1124)
        for net in lines(1125):
            web = drawn_web(draw, net, 3, drawn_sizes(draw, net, 3))
            order = line_order(net)
            for start in range(net.places):
                stop = draw.randrange(start, net.places)
                found = window(web=web, start=start, stop=stop)
                self.assertEqual(found.net.places, stop - start + 1)
                self.assertEqual(found.sizes, tuple(web.sizes[order[spot]] for spot in range(start, stop + 1)))
                for k, (tail, head) in enumerate(found.net.arrows):
                    self.assertEqual({tail, head}, {k, k + 1})
                    at = net.arrows.index((order[start + tail], order[start + head]))
                    self.assertEqual(found.tables[k], web.tables[at])
                cut = [(max(a, start) - start, min(b, stop) - start) for a, b in bars_of(web)
                       if a <= stop and b >= start]
                self.assertEqual(bars_of(found), tuple(sorted(cut)))
                self.assertEqual(len(threads(found, 0, stop - start)), len(threads(web, start, stop)))

    def test_errors_in_their_order(self):
        web = bare(STRAIGHT, 3, (1, 1, 1))
        for start in (None, -1, 3, True):
            for stop in (None, 0, 3, 1.0):
                check_order(self, window, {"web": web, "start": 1, "stop": 2}, [
                    ("web", bare(STAR, 3, (1,) * 4), ("NotLine",)), ("start", start, ("BadNumber", "start")),
                    ("stop", stop, ("BadNumber", "stop"))])
        self.assertEqual(error_of(window, STRAIGHT, 0, 0), ("NotLine",))


class MirroredTest(unittest.TestCase):

    def test_against_mirrored_webs(self):
        draw = drawn(1126)
        for net in lines(1127):
            web = drawn_web(draw, net, 3, drawn_sizes(draw, net, 3))
            for place in sinks(net) + sources(net):
                found = mirrored_bars(net=net, place=place, bars=bars_of(web))
                self.assertIs(type(found), tuple)
                self.assertEqual(found, bars_of(mirrored(web, place)))
            for place in sinks(net):
                for bar in all_bars(net):
                    told = bars_of(mirrored(bar_web(net, 2, bar), place))
                    self.assertEqual(mirrored_bars(net, place, (bar,)), told)

    def test_by_hand(self):
        net = Net(3, [(0, 1), (2, 1)])
        self.assertEqual(mirrored_bars(net, 1, ((0, 0), (0, 1), (0, 2), (1, 1), (1, 2), (2, 2))),
                         ((0, 0), (0, 1), (0, 2), (1, 2), (2, 2)))
        self.assertEqual(mirrored_bars(net, 1, ((0, 1), (0, 1), (1, 1))), ((0, 0), (0, 0)))

    def test_errors_in_their_order(self):
        good = {"net": STRAIGHT, "place": 0, "bars": ((0, 1),)}
        for bar in ((0, 3), (3, 3), (1, 4), (-1, 0), (2, 1)):
            self.assertEqual(error_of(mirrored_bars, STRAIGHT, 0, ((0, 1), bar)), ("BadBars", 1))
        for place in (None, -1, 3, True, 0.0):
            check_order(self, mirrored_bars, good, [
                ("net", PAIR, ("NotLine",)), ("place", place, ("BadPlace",)), ("bars", None, ("BadBars", None))])
        for bars, at in WRONG_BARS:
            if bars != ((0, 2),):
                check_order(self, mirrored_bars, good, [
                    ("net", None, ("NotLine",)), ("place", 1, ("NotSo",)), ("bars", bars, ("BadBars", at))])


if __name__ == "__main__":
    unittest.main()
