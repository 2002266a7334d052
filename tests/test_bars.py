"""Points [110], [111]: lines, bars, webs as rows of bars, threads."""

import unittest

from boughwebs.bars import (bar_web, bars_of, is_bar, is_bars, is_split_line, line_order, long_rank, split_line,
                            threads, web_of_bars)
from boughwebs.leasts import least_web
from boughwebs.likeness import alike
from boughwebs.maps import is_alike
from boughwebs.nets import Net
from boughwebs.roots import shape
from boughwebs.solving import kernel, rank
from boughwebs.splits import kind_of
from boughwebs.tables import Table, empty, plain, scaled, times
from boughwebs.webs import Web, bare, changed, sum_of, turned_web
from tests.drawn import (ARMS_SIX, CLASH, FIVE, NETS, ONE, PAIR, RING, STAR, STEP, STRAIGHT, arms_net, check_order,
                         drawn, drawn_sizes, drawn_web, error_of, of_other_kinds, renamed, turned_about,
                         with_one_otherwise)

NO_LINES = [None, 3, "net", (), STAR, PAIR, RING, FIVE, ARMS_SIX, bare(STEP, 3, (1, 1)), Net]


def lines(seed, many=2):
    """Lines of one to eight places, in any naming and direction."""
    draw = drawn(seed)
    return [renamed(draw, arms_net((places - 1,) if places > 1 else ())) for places in range(1, 9) for _ in range(many)]


def all_bars(net):
    return [(start, stop) for start in range(net.places) for stop in range(start, net.places)]


def drawn_bars(draw, net, most=5):
    return tuple(sorted(draw.choice(all_bars(net)) for _ in range(draw.randrange(most + 1))))


class BarsTest(unittest.TestCase):

    def test_line_order(self):
        for net in lines(1101, 6):
            self.assertEqual(shape(net), ("line", net.places))
            order = line_order(net=net)
            self.assertIs(type(order), tuple)
            self.assertEqual(sorted(order), list(range(net.places)))
            ends = [{a, b} for a, b in zip(order, order[1:])]
            self.assertTrue(all({tail, head} in ends for tail, head in net.arrows))
            self.assertLessEqual(order[0], order[-1])
        self.assertEqual(line_order(ONE), (0,))
        self.assertEqual(line_order(Net(3, [(2, 0), (1, 2)])), (0, 2, 1))
        self.assertEqual(line_order(Net(4, [(3, 1), (3, 0), (0, 2)])), (1, 3, 0, 2))

    def test_bars_of_any_value(self):
        for net in lines(1102):
            last = net.places - 1
            bars = all_bars(net)
            for bar in bars:
                self.assertIs(is_bar(net=net, thing=bar), True)
                for thing in of_other_kinds(bar):
                    self.assertIs(is_bar(net, thing), False)
            for thing in ((0, last + 1), (-1, 0), (1, 0), (0,), (0, 0, 0), (), None, 5, "00"):
                self.assertIs(is_bar(net, thing), False)
            self.assertIs(is_bars(net=net, thing=tuple(bars)), True)
            self.assertIs(is_bars(net, ()), True)
            self.assertIs(is_bars(net, (bars[0],) * 500), True)
            for thing in of_other_kinds(tuple(bars[:3])):
                self.assertIs(is_bars(net, thing), False)
            self.assertIs(is_bars(net, tuple(bars[::-1])), len(bars) == 1)
            for thing in (list(bars), [], None, {}, "", bars[0], (None,), ((0, last + 1),), ((last + 1, last + 1),),
                          ((-1, 0),), ((0, last), (0, last, 0))):
                self.assertIs(is_bars(net, thing), False)

    def test_bar_webs(self):
        for net in lines(1103):
            order = line_order(net)
            for prime in (2, 7):
                for start, stop in all_bars(net):
                    web = bar_web(net=net, prime=prime, bar=(start, stop))
                    sizes = tuple(int(start <= order.index(place) <= stop) for place in range(net.places))
                    self.assertEqual((web.net, web.prime, web.sizes), (net, prime, sizes))
                    for table in web.tables:
                        self.assertEqual(table.lines, ((1,),) * table.tall if table.wide else ((),) * table.tall)
                    self.assertEqual(alike(web, least_web(net, prime, sizes))[0], "map")

    def test_web_of_bars(self):
        draw = drawn(1104)
        for net in lines(1105):
            bars = drawn_bars(draw, net)
            web = web_of_bars(net=net, prime=3, bars=bars)
            told = [bar_web(net, 3, bar) for bar in bars]
            self.assertEqual(web, sum_of(told) if told else bare(net, 3, (0,) * net.places))
            self.assertEqual(web_of_bars(net, 3, ((0, 0),) * 60).sizes[line_order(net)[0]], 60)
            self.assertEqual(error_of(web_of_bars, net, 3, ((0, 0),) * 61), ("BadBars", None))

    def test_errors_in_their_order(self):
        for wrong in NO_LINES:
            for work in (line_order, lambda net: is_bar(net, None), lambda net: is_bars(net, None)):
                self.assertEqual(error_of(work, wrong), ("NotLine",))
            for prime in (None, 4, True, 101):
                check_order(self, bar_web, {"net": STEP, "prime": 3, "bar": (0, 1)}, [
                    ("net", wrong, ("NotLine",)), ("prime", prime, ("BadPrime",)), ("bar", [0, 1], ("BadBar",))])
        for bar in ((1, 0), (0, 2), (-1, 0), (0, True), (0, 1.0), (0,), None, 3, "01"):
            self.assertEqual(error_of(bar_web, STEP, 3, bar), ("BadBar",))
            check_order(self, web_of_bars, {"net": STEP, "prime": 3, "bars": ((0, 1), (1, 1))}, [
                ("net", None, ("NotLine",)), ("prime", 1, ("BadPrime",)), ("bars", ((0, 1), bar), ("BadBars", 1))])
        for bars, at in (((None,), 0), (((1, 1), (0, 1)), 1), (((0, 0), (0, 1), (0, 0), None), 2), ([(0, 0)], None),
                         (None, None), ({}, None), (((0, 1),) * 61 + (None,), 61), (((0, 1),) * 61, None),
                         (((0, 1),) * 61 + ((0, 0),), 61), (((0, 0), [0, 1]), 1)):
            self.assertEqual(error_of(web_of_bars, STEP, 3, bars), ("BadBars", at))


class SplitLineTest(unittest.TestCase):

    def test_drawn_webs(self):
        draw = drawn(1106)
        for net in lines(1107, 3):
            for prime in (2, 3, 97):
                web = drawn_web(draw, net, prime, drawn_sizes(draw, net, 3))
                found = split_line(web=web)
                self.assertIs(type(found), tuple)
                bars, coordinates = found
                self.assertIs(type(coordinates), list)
                self.assertIs(is_bars(net, bars), True)
                goal = web_of_bars(net, prime, bars)
                self.assertEqual(changed(web, coordinates), goal)
                self.assertEqual(bars_of(web=web), bars)
                self.assertEqual(kind_of(goal), kind_of(web))
                self.assertIs(is_split_line(web=web, thing=found), True)
                again = split_line(web)
                self.assertEqual(again, found)
                for thing in of_other_kinds(found):
                    self.assertIs(is_split_line(web, thing), False)
                for bent in list(with_one_otherwise(tuple(coordinates)))[:12]:
                    told = is_alike(web, goal, bent)
                    self.assertIs(is_split_line(web, (bars, list(bent))), told)
                if any(web.sizes):
                    self.assertIs(is_split_line(web, (bars, [scaled(table, 0) for table in coordinates])), False)
                    self.assertIs(is_split_line(web, (bars[1:], coordinates)), False)
                    self.assertIs(is_split_line(web, (bars + bars[-1:], coordinates)), False)

    def test_any_coordinates_that_do(self):
        draw = drawn(1108)
        for net in lines(1109, 1):
            bars = drawn_bars(draw, net)
            goal = web_of_bars(net, 5, bars)
            web = turned_about(draw, goal)
            self.assertEqual(bars_of(web), bars)
            coordinates = split_line(web)[1]
            twice = [scaled(table, 2) for table in coordinates]
            self.assertIs(is_split_line(web, (bars, twice)), True)
            self.assertIs(is_split_line(goal, (bars, [plain(5, size) for size in goal.sizes])), True)

    def test_other_bars_of_the_same_sizes(self):
        web = web_of_bars(STRAIGHT, 3, ((0, 1), (1, 2)))
        unit = [plain(3, size) for size in web.sizes]
        self.assertIs(is_split_line(web, (((0, 1), (1, 2)), unit)), True)
        self.assertIs(is_split_line(web, (((0, 2), (1, 1)), unit)), False)
        self.assertIs(is_split_line(web, (((0, 1), (1, 1), (2, 2)), unit)), False)
        self.assertIs(is_split_line(web, (((1, 2), (0, 1)), unit)), False)
        # What is no bar of the line, and rooms that no web has.
        self.assertIs(is_split_line(web, (((0, 1), (1, 3)), unit)), False)
        self.assertIs(is_split_line(web, (((0, 1), (1, 2)) * 31, unit)), False)
        self.assertIs(is_split_line(web, (((0, 1),) * 61, unit)), False)

    def test_example(self):
        for first, second, told in (([[1], [0]], [[2], [0]], ((0, 2), (1, 1))),
                                    ([[1], [0]], [[2], [1]], ((0, 1), (1, 2)))):
            web = Web(CLASH, 3, (1, 2, 1), [Table(3, 2, 1, first), Table(3, 2, 1, second)])
            self.assertEqual(bars_of(web), told)

    def test_no_lines(self):
        for wrong in [None, 3, STEP, (), "web"] + [bare(net, 3, (1,) * net.places) for net in NETS if
                                                   shape(net)[0] != "line"]:
            for work in (split_line, bars_of, lambda web: is_split_line(web, None),
                         lambda web: long_rank(web, None, None), lambda web: threads(web, None, None)):
                self.assertEqual(error_of(work, wrong), ("NotLine",))


class ThreadsTest(unittest.TestCase):

    def test_long_ranks(self):
        draw = drawn(1111)
        for net in lines(1112):
            prime = draw.choice((2, 3, 97))
            web = drawn_web(draw, net, prime, drawn_sizes(draw, net, 4))
            turned = turned_web(web)
            for start in range(net.places):
                for stop in range(start, net.places):
                    found = long_rank(web=web, start=start, stop=stop)
                    told = [bar for bar in bars_of(web) if bar[0] <= start and stop <= bar[1]]
                    self.assertEqual(found, len(told))
                    one, other = threads(web, start, stop), threads(turned, start, stop)
                    if max(len(one), len(other)) > 60:
                        continue
                    for at in range(stop - start + 1):
                        numbers = [[sum(a * b for a, b in zip(first[at], second[at])) for second in other]
                                   for first in one]
                        self.assertEqual(rank(Table(prime, len(one), len(other), numbers)), found)

    def test_threads(self):
        draw = drawn(1113)
        for net in lines(1114):
            prime = draw.choice((2, 3, 97))
            web = drawn_web(draw, net, prime, drawn_sizes(draw, net, 3))
            order = line_order(net)
            start = draw.randrange(net.places)
            stop = draw.randrange(start, net.places)
            spots = range(start, stop + 1)
            found = threads(web=web, start=start, stop=stop)
            self.assertIs(type(found), list)
            wide = sum(web.sizes[order[spot]] for spot in spots)
            if wide > 60:
                continue
            rows = []
            for at, (tail, head) in enumerate(net.arrows):
                if order.index(tail) in spots and order.index(head) in spots:
                    for k, line in enumerate(web.tables[at].lines):
                        row = {(order.index(tail), j): number for j, number in enumerate(line)}
                        row[order.index(head), k] = -1
                        rows.append([row.get((spot, j), 0) for spot in spots for j in range(web.sizes[order[spot]])])
            table = kernel(Table(prime, len(rows), wide, rows)) if len(rows) <= 60 else None
            if table is not None:
                told = [tuple(line[k] for line in table.lines) for k in range(table.wide)]
                self.assertEqual([sum(thread, ()) for thread in found], told)
            for thread in found:
                self.assertIs(type(thread), tuple)
                self.assertEqual([len(column) for column in thread], [web.sizes[order[spot]] for spot in spots])
                for at, (tail, head) in enumerate(net.arrows):
                    ends = [order.index(tail), order.index(head)]
                    if all(spot in spots for spot in ends):
                        first, second = [thread[spot - start] for spot in ends]
                        column = Table(prime, len(first), 1, [[number] for number in first])
                        self.assertEqual(times(web.tables[at], column).lines, tuple((number,) for number in second))

    def test_limits_and_errors(self):
        net = lines(1115, 1)[5]
        self.assertEqual(len(threads(bare(net, 2, (50,) * 6), 0, 5)), 300 - 50 * len({head for _, head in net.arrows}))
        most = [50] * 6
        most[line_order(net)[0]] = 51
        web = bare(net, 2, tuple(most))
        self.assertEqual(error_of(threads, web, 0, 5), ("TooMany", 300))
        self.assertIsNone(error_of(threads, web, 1, 5))
        self.assertIsNone(error_of(long_rank, web, 0, 5))
        for work in (long_rank, threads):
            for start in (None, -1, 6, True, 0.0, "0"):
                for stop in (None, -1, 6, True, 0.0, "0"):
                    check_order(self, work, {"web": web, "start": 2, "stop": 4}, [
                        ("web", 3, ("NotLine",)), ("start", start, ("BadNumber", "start")),
                        ("stop", stop, ("BadNumber", "stop"))])
            self.assertEqual(error_of(work, web, 3, 2), ("BadNumber", "stop"))
            self.assertIsNone(error_of(work, web, 3, 3))
        self.assertEqual(threads(bare(ONE, 3, (2,)), 0, 0), [((1, 0),), ((0, 1),)])
        self.assertEqual(threads(bare(STEP, 3, (1, 0)), 0, 1), [((1,), ())])
        self.assertEqual(threads(Web(STEP, 3, (1, 1), [Table(3, 1, 1, [[2]])]), 0, 1), [((2,), (1,))])
        self.assertEqual(empty(3, 0, 0).lines, ())


if __name__ == "__main__":
    unittest.main()
