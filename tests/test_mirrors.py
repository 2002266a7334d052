"""Points [50] to [53]: mirrors at sinks and sources."""

import unittest

from boughwebs.errors import BadMaps, BadNet, BadPlace, BadPrime, BadWeb, NotSo, OtherNet, TooMany
from boughwebs.maps import behind, count_maps, is_alike, is_map, maps
from boughwebs.mirrors import (inflow, lost_points, mirrored, mirrored_again, mirrored_map, mirrored_net, outflow,
                               point_web, split_off)
from boughwebs.nets import Net, sinks, sources
from boughwebs.roots import mirrored_row
from boughwebs.solving import kernel, left_over, rank
from boughwebs.tables import Table, across, beside, corner, empty, over, plain, plus, times
from boughwebs.webs import Web, bare, changed, sum_of, turned_web
from tests.drawn import (FIVE, NETS, ONE, PAIR, RING, STAR, STEP, STRAIGHT, TRIPLE, drawn, drawn_map, drawn_net,
                         drawn_sizes, drawn_web, drawn_whole)

WRONG_PLACES = (-1, 2, True, None, 0.0, "0", (0,))


def ends(net):
    return sorted(set(sinks(net) + sources(net)))


def drawn_cases(seed, count=1, most=3, primes=(2, 5)):
    """Webs at every sink and source of many nets."""
    draw = drawn(seed)
    nets = NETS + [drawn_net(draw, draw.randrange(1, 6), draw.randrange(8)) for _ in range(12)]
    for net in nets:
        for prime in primes:
            for place in ends(net):
                yield (draw, place) + tuple(drawn_web(draw, net, prime, drawn_sizes(draw, net, most), 0.5)
                                            for _ in range(count))


def arrows_at(net, place):
    """Indexes of the arrows at the place, with their other ends."""
    return [(at, head if tail == place else tail)
            for at, (tail, head) in enumerate(net.arrows) if place in (tail, head)]


def is_sink(net, place):
    return all(tail != place for tail, head in net.arrows)


class PartsTest(unittest.TestCase):

    def test_mirrored_net(self):
        net = Net(3, [(2, 1), (0, 1), (0, 1), (0, 2)])
        self.assertEqual(mirrored_net(net, 1), Net(3, [(1, 2), (1, 0), (1, 0), (0, 2)]))
        self.assertEqual(mirrored_net(net=net, place=0), Net(3, [(2, 1), (1, 0), (1, 0), (2, 0)]))
        self.assertEqual(mirrored_net(ONE, 0), ONE)
        for other in NETS:
            for place in ends(other):
                self.assertEqual(mirrored_net(mirrored_net(other, place), place), other)

    def test_mirrored_net_errors(self):
        for place in WRONG_PLACES:
            with self.assertRaises(BadPlace):
                mirrored_net(PAIR, place)
        for net, place in ((STRAIGHT, 1), (RING, 1), (FIVE, 4)):
            with self.assertRaises(NotSo):
                mirrored_net(net, place)
        for net in (None, 3, bare(ONE, 3, (1,))):
            with self.assertRaises(BadNet) as caught:
                mirrored_net(net, None)
            self.assertIsNone(caught.exception.part)

    def test_point_web(self):
        self.assertEqual(point_web(net=STAR, prime=5, place=3), bare(STAR, 5, (0, 0, 0, 1)))
        self.assertEqual(point_web(PAIR, 3, 0), Web(PAIR, 3, (1, 0), [empty(3, 0, 1)] * 2))
        with self.assertRaises(BadNet):
            point_web(3, 4, 9)
        for prime in (4, True, None, 101):
            with self.assertRaises(BadPrime):
                point_web(PAIR, prime, 9)
        for place in WRONG_PLACES:
            with self.assertRaises(BadPlace):
                point_web(PAIR, 3, place)

    def test_inflow_and_outflow_by_hand(self):
        net = Net(3, [(2, 1), (0, 2), (0, 1), (0, 1)])
        first, second, third, last = (Table(5, 2, 1, [[1], [2]]), Table(5, 1, 2, [[3, 4]]),
                                      Table(5, 2, 2, [[0, 1], [1, 1]]), plain(5, 2))
        web = Web(net, 5, (2, 2, 1), [first, second, third, last])
        self.assertEqual(inflow(web, 1), beside([first, third, last]))
        self.assertEqual(outflow(web=web, place=0), over([second, third, last]))
        self.assertEqual(inflow(web=web, place=2), second)
        self.assertEqual(outflow(web, 2), first)
        self.assertEqual(inflow(web, 0), empty(5, 2, 0))
        self.assertEqual(outflow(web, 1), empty(5, 0, 2))

    def test_at_all_places(self):
        for draw, _, web in drawn_cases(71):
            for place in range(web.net.places):
                led = [table for table, (tail, head) in zip(web.tables, web.net.arrows) if head == place]
                away = [table for table, (tail, head) in zip(web.tables, web.net.arrows) if tail == place]
                size = web.sizes[place]
                self.assertEqual(inflow(web, place), beside(led) if led else empty(web.prime, size, 0))
                self.assertEqual(outflow(web, place), over(away) if away else empty(web.prime, 0, size))
                self.assertEqual(outflow(web, place), across(inflow(turned_web(web), place)))

    def test_just_sixty_and_one_more(self):
        net = Net(3, [(0, 1), (2, 1)])
        self.assertEqual(inflow(bare(net, 2, (30, 5, 30)), 1), empty(2, 5, 60))
        self.assertEqual(outflow(bare(STEP, 2, (5, 60)), 0), empty(2, 60, 5))
        full, more = bare(net, 2, (30, 5, 30)), bare(net, 2, (31, 5, 30))
        self.assertEqual(mirrored(full, 1).sizes, (30, 60, 30))
        self.assertEqual(lost_points(full, 1), 5)
        self.assertEqual(mirrored_again(full, 1)[0].sizes, (30, 0, 30))
        self.assertEqual(len(split_off(full, 1)), 3)
        same = tuple(plain(2, size) for size in full.sizes)
        self.assertEqual(mirrored_map(full, full, same, 1)[1], plain(2, 60))
        for web, flow in ((more, inflow), (turned_web(more), outflow)):
            works = (flow, mirrored, lost_points, mirrored_again, split_off,
                     lambda web, place: mirrored_map(web, web, tuple(plain(2, size) for size in web.sizes), place))
            for work in works:
                with self.assertRaises(TooMany) as caught:
                    work(web, 1)
                self.assertEqual(caught.exception.most, 60)
        for one, other in ((full, more), (more, full)):
            noughts = tuple(empty(2, b, a) for a, b in zip(one.sizes, other.sizes))
            with self.assertRaises(TooMany):
                mirrored_map(one, other, noughts, 1)
        self.assertEqual(mirrored(turned_web(full), 1), turned_web(mirrored(full, 1)))

    def test_flow_errors(self):
        web = bare(PAIR, 3, (40, 40))
        for work in (inflow, outflow):
            for place in WRONG_PLACES:
                with self.assertRaises(BadPlace):
                    work(web, place)
            for thing in (None, PAIR, 3):
                with self.assertRaises(BadWeb) as caught:
                    work(thing, None)
                self.assertIsNone(caught.exception.part)


class MirroredTest(unittest.TestCase):

    def test_by_hand(self):
        web = Web(STAR, 5, (1, 1, 1, 2), [Table(5, 2, 1, [[1], [0]]), Table(5, 2, 1, [[0], [1]]),
                                          Table(5, 2, 1, [[1], [2]])])
        told = Web(mirrored_net(STAR, 3), 5, (1, 1, 1, 1), [Table(5, 1, 1, [[number]]) for number in (4, 3, 1)])
        self.assertEqual(mirrored(web, 3), told)
        self.assertEqual(mirrored(web=web, place=3), told)
        self.assertEqual(lost_points(web=web, place=3), 0)
        self.assertEqual(mirrored(web, 0), Web(mirrored_net(STAR, 0), 5, (1, 1, 1, 2),
                                               (Table(5, 1, 2, [[0, 1]]),) + web.tables[1:]))
        self.assertEqual(mirrored(point_web(STAR, 5, 3), 3), bare(mirrored_net(STAR, 3), 5, (0, 0, 0, 0)))
        self.assertEqual(mirrored(bare(ONE, 5, (4,)), 0), bare(ONE, 5, (0,)))
        self.assertEqual(lost_points(bare(ONE, 5, (4,)), 0), 4)

    def test_table_by_table(self):
        for draw, place, web in drawn_cases(72):
            found = mirrored(web, place)
            self.assertEqual(found.net, mirrored_net(web.net, place))
            near = arrows_at(web.net, place)
            if is_sink(web.net, place):
                told = kernel(inflow(web, place))
                pieces = [found.tables[at] for at, _ in near]
                self.assertEqual(over(pieces) if near else told, told)
                self.assertEqual(found.sizes[place], told.wide)
            else:
                told = left_over(outflow(web, place))
                self.assertEqual(beside([found.tables[at] for at, _ in near]), told)
                self.assertEqual(found.sizes[place], told.tall)
            for at, table in enumerate(web.tables):
                if at not in [k for k, _ in near]:
                    self.assertEqual(found.tables[at], table)

    def test_facts(self):
        for draw, place, web in drawn_cases(73):
            found, lost = mirrored(web, place), lost_points(web, place)
            flow = inflow(web, place) if is_sink(web.net, place) else outflow(web, place)
            self.assertEqual(lost, web.sizes[place] - rank(flow))
            told = list(mirrored_row(web.net, place, web.sizes))
            told[place] += lost
            self.assertEqual(list(found.sizes), told)
            self.assertEqual(turned_web(mirrored(turned_web(web), place)), found)
            self.assertEqual(lost_points(turned_web(web), place), lost)
            if web.net.places > 1:
                self.assertEqual(lost_points(found, place), 0)

    def test_sums_are_mirrored_to_sums(self):
        for draw, place, one, other in drawn_cases(74, 2, 2):
            both = sum_of([one, other])
            self.assertEqual(mirrored(both, place).sizes,
                             sum_of([mirrored(one, place), mirrored(other, place)]).sizes)
            self.assertEqual(lost_points(both, place), lost_points(one, place) + lost_points(other, place))

    def test_alike_webs_are_mirrored_to_alike_ones(self):
        for draw, place, web in drawn_cases(75):
            turn = tuple(drawn_whole(draw, web.prime, size) for size in web.sizes)
            other = changed(web, turn)
            found = mirrored_map(web, other, turn, place)
            self.assertTrue(is_alike(mirrored(web, place), mirrored(other, place), found))

    def test_errors_in_their_order(self):
        great = bare(Net(3, [(0, 1), (1, 2)]), 2, (60, 60, 60))
        for work in (mirrored, lost_points, mirrored_again, split_off):
            for place in (-1, 3, True, None, "0"):
                with self.assertRaises(BadPlace):
                    work(great, place)
            with self.assertRaises(NotSo):
                work(great, 1)
            for thing in (None, STEP, 3):
                with self.assertRaises(BadWeb) as caught:
                    work(thing, None)
                self.assertIsNone(caught.exception.part)
        wide = bare(Net(5, [(0, 1), (2, 1), (1, 3), (1, 4)]), 2, (60,) * 5)
        for work in (mirrored, lost_points, mirrored_again, split_off):
            with self.assertRaises(NotSo):
                work(wide, 1)


class MirroredMapTest(unittest.TestCase):

    def test_as_told(self):
        for draw, place, one, other in drawn_cases(76, 2, 2):
            mapping = drawn_map(draw, one, other)
            found = mirrored_map(one=one, other=other, mapping=mapping, place=place)
            self.assertTrue(is_map(mirrored(one, place), mirrored(other, place), found))
            self.assertEqual([found[k] for k in range(len(found)) if k != place],
                             [mapping[k] for k in range(len(found)) if k != place])
            if one.net.places == 1:
                self.assertEqual(found, (empty(one.prime, 0, 0),))
                continue
            lead = corner([mapping[end] for _, end in arrows_at(one.net, place)])
            if is_sink(one.net, place):
                self.assertEqual(times(kernel(inflow(other, place)), found[place]),
                                 times(lead, kernel(inflow(one, place))))
            else:
                self.assertEqual(times(found[place], left_over(outflow(one, place))),
                                 times(left_over(outflow(other, place)), lead))

    def test_one_behind_the_other_sums_and_plain(self):
        for draw, place, one, other, third in drawn_cases(77, 3, 2):
            first, again, second = (drawn_map(draw, one, other), drawn_map(draw, one, other),
                                    drawn_map(draw, other, third))
            led = mirrored_map(one, other, first, place)
            self.assertEqual(mirrored_map(one, third, behind(first, second), place),
                             behind(led, mirrored_map(other, third, second, place)))
            total = tuple(plus(a, b) for a, b in zip(first, again))
            other_led = mirrored_map(one, other, again, place)
            self.assertEqual(mirrored_map(one, other, total, place),
                             tuple(plus(a, b) for a, b in zip(led, other_led)))
            same = tuple(plain(one.prime, size) for size in one.sizes)
            self.assertEqual(mirrored_map(one, one, same, place),
                             tuple(plain(one.prime, size) for size in mirrored(one, place).sizes))

    def test_numbers_of_maps_across_a_mirror(self):
        for draw, place, one, other in drawn_cases(78, 2, 2):
            there = count_maps(mirrored(one, place), mirrored(other, place))
            if is_sink(one.net, place):
                lost = lost_points(one, place) * other.sizes[place]
            else:
                lost = one.sizes[place] * lost_points(other, place)
            self.assertEqual(count_maps(one, other), there + lost)

    def test_every_map_is_mirrored_from_some_map(self):
        for draw, place, one, other in drawn_cases(79, 2, 2, primes=(3,)):
            led = [mirrored_map(one, other, mapping, place) for mapping in maps(one, other)]
            numbers = [[number for table in mapping for line in table.lines for number in line] for mapping in led]
            if 0 < len(numbers) <= 60 and 0 < len(numbers[0]) <= 60:
                spanned = rank(Table(3, len(numbers), len(numbers[0]), numbers))
                self.assertEqual(spanned, count_maps(mirrored(one, place), mirrored(other, place)))

    def test_errors_in_their_order(self):
        web, other = bare(STRAIGHT, 3, (1, 1, 1)), bare(STRAIGHT, 5, (1, 1, 1))
        same = tuple(plain(3, 1) for _ in range(3))
        for one, two in ((None, other), (web, 3)):
            with self.assertRaises(BadWeb) as caught:
                mirrored_map(one, two, None, None)
            self.assertIsNone(caught.exception.part)
        with self.assertRaises(OtherNet):
            mirrored_map(web, other, None, None)
        for mapping in (None, list(same), same[:2], (plain(3, 2),) + same[1:]):
            with self.assertRaises(BadMaps):
                mirrored_map(web, web, mapping, None)
        for place in (None, 3, -1, True):
            with self.assertRaises(BadPlace):
                mirrored_map(web, web, same, place)
        with self.assertRaises(NotSo):
            mirrored_map(web, web, same, 1)
        bent = Web(STRAIGHT, 3, (1, 1, 1), [plain(3, 1), empty(3, 1, 1)])
        with self.assertRaises(BadMaps):
            mirrored_map(web, bent, same, 0)
        wide = bare(Net(5, [(0, 1), (2, 1), (1, 3), (1, 4)]), 2, (60,) * 5)
        noughts = tuple(empty(2, 60, 60) for _ in range(5))
        with self.assertRaises(NotSo):
            mirrored_map(wide, wide, noughts, 1)


class AgainTest(unittest.TestCase):

    def test_mirrored_again(self):
        for draw, place, web in drawn_cases(80):
            found = mirrored_again(web=web, place=place)
            self.assertIs(type(found), tuple)
            twice, mapping = found
            self.assertEqual(twice, mirrored(mirrored(web, place), place))
            self.assertEqual(twice.sizes[place], web.sizes[place] - lost_points(web, place))
            for k, table in enumerate(mapping):
                if k != place:
                    self.assertEqual(table, plain(web.prime, web.sizes[k]))
            if is_sink(web.net, place):
                self.assertTrue(is_map(twice, web, mapping))
                flow = inflow(web, place)
                self.assertEqual(times(mapping[place], left_over(kernel(flow))), flow)
            else:
                self.assertTrue(is_map(web, twice, mapping))
                flow = outflow(web, place)
                self.assertEqual(times(kernel(left_over(flow)), mapping[place]), flow)
            self.assertEqual(rank(mapping[place]), twice.sizes[place])

    def test_split_off(self):
        for draw, place, web in drawn_cases(81):
            lost = lost_points(web, place)
            twice = mirrored(mirrored(web, place), place)
            found = split_off(web=web, place=place)
            self.assertIs(type(found), tuple)
            both = sum_of([twice] + [point_web(web.net, web.prime, place)] * lost)
            self.assertTrue(is_alike(both, web, found))
            self.assertEqual(split_off(web, place), found)

    def test_rooms_of_size_nought(self):
        for net in (STEP, TRIPLE, STAR, RING):
            for place in ends(net):
                web = bare(net, 3, (0,) * net.places)
                self.assertEqual(mirrored(web, place).sizes, web.sizes)
                self.assertEqual(lost_points(web, place), 0)
                self.assertEqual(split_off(web, place), tuple(empty(3, 0, 0) for _ in range(net.places)))
        self.assertEqual(split_off(bare(ONE, 3, (2,)), 0), (plain(3, 2),))


if __name__ == "__main__":
    unittest.main()
