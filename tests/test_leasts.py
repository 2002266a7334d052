"""Points [56] and [57]: ways, first and last webs, least webs."""

import unittest
from itertools import product

from boughwebs.errors import BadNet, BadPlace, BadPrime, BadRow, BadTable, BadWeb, NotGood, TooMany
from boughwebs.leasts import all_ways, first_web, last_web, least_web, map_from, root_word, shown_least
from boughwebs.maps import behind, count_maps, is_alike, is_map, maps
from boughwebs.mirrors import point_web
from boughwebs.nets import Net, sinks
from boughwebs.roots import mirrored_row, roots
from boughwebs.solving import rank
from boughwebs.tables import Table, empty, plain, times
from boughwebs.webs import Web, bare, changed, sum_of, turned_web
from boughwebs.words import (is_word, net_after, row_after, shifted_web, sink_word, unshifted_web, web_before)
from tests.drawn import (ARMS_SIX, CLASH, FIVE, GOOD, NETS, ONE, PAIR, RING, SQUARE, STAR, STEP, STRAIGHT, TRIPLE,
                         all_tables, drawn, drawn_net, drawn_sizes, drawn_web, good_nets, turned_about)

# Three, four and five arrows one behind another: 60 ways; four, four and four: 64.
SIXTY = Net(4, [(0, 1)] * 3 + [(1, 2)] * 4 + [(2, 3)] * 5)
MORE = Net(4, [(0, 1)] * 4 + [(1, 2)] * 4 + [(2, 3)] * 4)


def plain_ways(net, one, other):
    """All ways, found by trying all tuples of arrows."""
    found = [()] if one == other else []
    for length in range(1, net.places):
        for way in product(range(len(net.arrows)), repeat=length):
            steps = [net.arrows[at] for at in way]
            if (steps[0][0], steps[-1][1]) == (one, other) and all(a[1] == b[0] for a, b in zip(steps, steps[1:])):
                found.append(way)
    return sorted(found)


class WaysTest(unittest.TestCase):

    def test_all_ways(self):
        for net in (ONE, STEP, PAIR, TRIPLE, CLASH, STRAIGHT, RING, SQUARE, STAR, FIVE):
            for one, other in product(range(net.places), repeat=2):
                found = all_ways(net=net, one=one, other=other)
                self.assertIs(type(found), list)
                self.assertEqual(found, plain_ways(net, one, other))
        double = Net(3, [(1, 2), (0, 1), (0, 1), (0, 2)])
        self.assertEqual(all_ways(double, 0, 2), [(1, 0), (2, 0), (3,)])
        self.assertEqual(all_ways(double, 2, 0), [])
        self.assertEqual(all_ways(double, 1, 1), [()])

    def test_sixty_and_more(self):
        found = all_ways(SIXTY, 0, 3)
        self.assertEqual((len(found), found[0], found[-1]), (60, (0, 3, 7), (2, 6, 11)))
        for work in (lambda: all_ways(MORE, 0, 3), lambda: first_web(MORE, 3, 0), lambda: last_web(MORE, 3, 3),
                     lambda: map_from(bare(MORE, 3, (1, 0, 0, 0)), 0, plain(3, 1))):
            with self.assertRaises(TooMany) as caught:
                work()
            self.assertEqual(caught.exception.most, 60)
        self.assertEqual(len(all_ways(MORE, 0, 2)), 16)
        self.assertEqual(first_web(MORE, 3, 1).sizes, (0, 1, 4, 16))
        self.assertEqual(last_web(MORE, 3, 2).sizes, (16, 4, 1, 0))
        self.assertEqual(first_web(SIXTY, 2, 0).sizes, (1, 3, 12, 60))
        self.assertEqual(last_web(SIXTY, 2, 3).sizes, (60, 20, 5, 1))

    def test_first_web(self):
        for net in NETS:
            for place in range(net.places):
                web = first_web(net=net, prime=5, place=place)
                ways = [all_ways(net, place, end) for end in range(net.places)]
                self.assertEqual((web.net, web.prime, web.sizes), (net, 5, tuple(len(some) for some in ways)))
                for at, (tail, head) in enumerate(net.arrows):
                    for k, way in enumerate(ways[tail]):
                        column = [line[k] for line in web.tables[at].lines]
                        self.assertEqual(column, [int(other == way + (at,)) for other in ways[head]])

    def test_last_web(self):
        for net in NETS:
            for place in range(net.places):
                web = last_web(net=net, prime=7, place=place)
                ways = [all_ways(net, end, place) for end in range(net.places)]
                self.assertEqual((web.net, web.prime, web.sizes), (net, 7, tuple(len(some) for some in ways)))
                for at, (tail, head) in enumerate(net.arrows):
                    for k, way in enumerate(ways[tail]):
                        column = [line[k] for line in web.tables[at].lines]
                        rest = way[1:] if way[:1] == (at,) else None
                        self.assertEqual(column, [int(other == rest) for other in ways[head]])

    def test_by_hand(self):
        self.assertEqual(first_web(PAIR, 3, 0), Web(PAIR, 3, (1, 2), [Table(3, 2, 1, [[1], [0]]),
                                                                       Table(3, 2, 1, [[0], [1]])]))
        self.assertEqual(last_web(PAIR, 3, 1), Web(PAIR, 3, (2, 1), [Table(3, 1, 2, [[1, 0]]),
                                                                      Table(3, 1, 2, [[0, 1]])]))
        self.assertEqual(first_web(PAIR, 3, 1), point_web(PAIR, 3, 1))

    def test_map_from_every_column(self):
        draw = drawn(111)
        for net in (ONE, STEP, PAIR, CLASH, STRAIGHT, RING, SQUARE, STAR):
            web = drawn_web(draw, net, 2, drawn_sizes(draw, net, 3))
            for place in range(net.places):
                first = first_web(net, 2, place)
                found = []
                for column in all_tables(2, web.sizes[place], 1):
                    led = map_from(web=web, place=place, column=column)
                    self.assertIs(type(led), tuple)
                    self.assertTrue(is_map(first, web, led))
                    self.assertEqual(led[place], column)
                    found.append(tuple(table.lines for table in led))
                    for end in range(net.places):
                        for k, way in enumerate(all_ways(net, place, end)):
                            made = column
                            for at in way:
                                made = times(web.tables[at], made)
                            self.assertEqual([line[k] for line in led[end].lines], [line[0] for line in made.lines])
                # As many as there are maps: each map is that of just one column.
                self.assertEqual(len(set(found)), 2 ** count_maps(first, web))

    def test_maps_from_first_and_to_last_webs(self):
        draw = drawn(112)
        for net in NETS + [drawn_net(draw, 4, 6)]:
            for prime in (2, 5):
                web = drawn_web(draw, net, prime, drawn_sizes(draw, net, 3))
                for place in range(net.places):
                    self.assertEqual(count_maps(first_web(net, prime, place), web), web.sizes[place])
                    self.assertEqual(count_maps(web, last_web(net, prime, place)), web.sizes[place])

    def test_shifted_first_webs_are_empty(self):
        draw = drawn(113)
        for net in NETS + [SIXTY] + [drawn_net(draw, draw.randrange(1, 7), draw.randrange(9)) for _ in range(8)]:
            for place in range(net.places):
                nothing = bare(net, 3, (0,) * net.places)
                self.assertEqual(shifted_web(first_web(net, 3, place)), nothing)
                self.assertEqual(unshifted_web(last_web(net, 3, place)), nothing)

    def test_errors_in_their_order(self):
        for place in (-1, 2, True, None, "0", (0,)):
            self.assertRaises(BadPlace, all_ways, STEP, place, 0)
            self.assertRaises(BadPlace, all_ways, STEP, 0, place)
            self.assertRaises(BadPlace, first_web, STEP, 3, place)
            self.assertRaises(BadPlace, last_web, STEP, 3, place)
            self.assertRaises(BadPlace, map_from, bare(STEP, 3, (1, 1)), place, empty(5, 2, 2))
        for prime in (None, 4, True, 101, "3"):
            self.assertRaises(BadPrime, first_web, MORE, prime, None)
            self.assertRaises(BadPrime, last_web, MORE, prime, None)
        web = bare(STEP, 3, (1, 2))
        for column in (plain(5, 1), empty(3, 1, 0), empty(3, 1, 2), empty(3, 2, 1)):
            self.assertRaises(BadTable, map_from, web, 0, column)
        for column in (None, 1, [1], (1,), web):
            self.assertRaises(BadTable, map_from, web, None, column)
        self.assertRaises(BadTable, map_from, bare(MORE, 3, (1, 0, 0, 0)), 0, empty(3, 0, 1))
        for thing in (None, 3, STEP):
            with self.assertRaises(BadWeb) as caught:
                map_from(thing, None, None)
            self.assertIsNone(caught.exception.part)
        for net in (None, 3, web):
            for work in (lambda: all_ways(net, None, None), lambda: first_web(net, 4, None),
                         lambda: last_web(net, 4, None)):
                with self.assertRaises(BadNet) as caught:
                    work()
                self.assertIsNone(caught.exception.part)


def by_hand(net, prime, root):
    """The least web as the document tells it."""
    word, place = root_word(net, root)
    return web_before(net, word, point_web(net_after(net, word), prime, place))


def other_pair(draw, net, root):
    """Some word that leads root over rows from 0 on to the row of a sink of the net behind it, and this sink."""
    word, row = [], root
    while True:
        after = net_after(net, word)
        ends = [place for place in sinks(after) if row == tuple(int(k == place) for k in range(net.places))]
        if ends:
            return word, ends[0]
        ready = [place for place in sinks(after) if min(mirrored_row(net, place, row)) >= 0]
        word.append(draw.choice(ready))
        row = mirrored_row(net, word[-1], row)


class LeastTest(unittest.TestCase):

    def test_by_hand(self):
        self.assertEqual(root_word(STEP, (0, 1)), ([], 1))
        self.assertEqual(root_word(STEP, (1, 1)), ([1], 0))
        self.assertEqual(root_word(net=STEP, root=(1, 0)), ([1, 0], 1))
        self.assertEqual(least_web(STEP, 3, (1, 1)), Web(STEP, 3, (1, 1), [plain(3, 1)]))
        self.assertEqual(least_web(net=ONE, prime=3, root=(1,)), bare(ONE, 3, (1,)))
        told = least_web(STAR, 5, (1, 1, 1, 2))
        self.assertEqual([rank(table) for table in told.tables], [1, 1, 1])

    def test_root_words(self):
        for net in GOOD + good_nets(114):
            pairs = []
            for root in roots(net):
                word, place = root_word(net, root)
                self.assertIs(type(word), list)
                repeated = sink_word(net) * (len(word) // net.places + 1)
                self.assertEqual((word, place), (repeated[:len(word)], repeated[len(word)]))
                unit = tuple(int(k == place) for k in range(net.places))
                self.assertEqual(row_after(net, word, root), unit)
                for k in range(len(word)):
                    unit = tuple(int(place == repeated[k]) for place in range(net.places))
                    self.assertNotEqual(row_after(net, word[:k], root), unit)
                pairs.append((len(word), place))
            self.assertEqual(len(set(pairs)), len(pairs))

    def test_least_webs(self):
        for net in good_nets(115):
            for prime in (2, 7) if net.places < 7 else (3,):
                for root in roots(net):
                    web = least_web(net, prime, root)
                    self.assertEqual((web.net, web.prime, web.sizes), (net, prime, root))
                    self.assertEqual(count_maps(web, web), 1)
                    if net.places < 8:
                        self.assertEqual(web, by_hand(net, prime, root))

    def test_over_every_prime(self):
        for net in (STAR, ARMS_SIX):
            for prime in (2, 3, 5, 11, 13, 43, 97):
                for root in roots(net)[::3]:
                    self.assertEqual(count_maps(least_web(net, prime, root), least_web(net, prime, root)), 1)

    def test_by_every_other_word(self):
        draw = drawn(116)
        for net in good_nets(117):
            for root in draw.sample(roots(net), min(6, len(roots(net)))):
                word, place = other_pair(draw, net, root)
                self.assertTrue(is_word(net, word))
                web = web_before(net, word, point_web(net_after(net, word), 5, place))
                self.assertEqual(web, least_web(net, 5, root))

    def test_first_webs_are_alike_to_least_ones(self):
        for net in GOOD:
            for place in range(net.places):
                web = first_web(net, 3, place)
                self.assertTrue(is_alike(least_web(net, 3, web.sizes), web, shown_least(web)))

    def test_shown_least(self):
        draw = drawn(118)
        seen = {True: 0, False: 0}
        for net in GOOD + good_nets(119, 7):
            for root in draw.sample(roots(net), min(6, len(roots(net)))):
                least = least_web(net, 3, root)
                for web in (turned_about(draw, least), drawn_web(draw, net, 3, root, 0.6)):
                    found = shown_least(web=web)
                    own = count_maps(web, web)
                    self.assertGreaterEqual(own, 1)
                    self.assertIs(found is not None, own == 1)
                    if found is not None:
                        self.assertEqual([found], maps(least, web))
                        self.assertTrue(is_alike(least, web, found))
                    seen[found is None] += 1
        self.assertGreater(min(seen.values()), 10)

    def test_one_map_that_has_no_inverse(self):
        # There is one map from the least web of these sizes, but the web is not alike to it.
        for sizes, table in (((1, 1), empty(3, 1, 1)), ((2, 2), plain(3, 2)), ((0, 0), empty(3, 0, 0)),
                             ((2, 0), empty(3, 0, 2))):
            self.assertIsNone(shown_least(Web(STEP, 3, sizes, [table])))
        web = Web(STRAIGHT, 3, (1, 1, 1), [plain(3, 1), empty(3, 1, 1)])
        self.assertEqual(len(maps(least_web(STRAIGHT, 3, (1, 1, 1)), web)), 1)
        self.assertIsNone(shown_least(web))

    def test_maps_of_alike_webs(self):
        draw = drawn(120)
        for net in (CLASH, STAR):
            for root in roots(net):
                web = turned_about(draw, least_web(net, 5, root))
                found = shown_least(web)
                there = maps(web, least_web(net, 5, root))[0]
                both = behind(found, there)
                self.assertTrue(all(rank(table) == table.tall for table in both))

    def test_turned_webs(self):
        draw = drawn(121)
        for net in (STAR, ARMS_SIX):
            for root in draw.sample(roots(net), 5):
                self.assertIsNotNone(shown_least(turned_web(least_web(net, 3, root))))

    def test_errors_in_their_order(self):
        for net in (PAIR, RING, FIVE):
            for work in (lambda: root_word(net, None), lambda: least_web(net, 4, None),
                         lambda: shown_least(bare(net, 3, (1,) * net.places))):
                self.assertRaises(NotGood, work)
        for prime in (None, 4, True, 101):
            self.assertRaises(BadPrime, least_web, STEP, prime, None)
        for root in (None, (2, 1), (0, 0), (1, True), [1, 1], (1,), (-1, 0), (1, 1, 1), "11"):
            self.assertRaises(BadRow, root_word, STEP, root)
            self.assertRaises(BadRow, least_web, STEP, 3, root)
        for net in (None, 3, bare(STEP, 3, (1, 1))):
            for work in (lambda: root_word(net, None), lambda: least_web(net, None, None)):
                with self.assertRaises(BadNet) as caught:
                    work()
                self.assertIsNone(caught.exception.part)
        for thing in (None, 3, STEP):
            with self.assertRaises(BadWeb) as caught:
                shown_least(thing)
            self.assertIsNone(caught.exception.part)

    def test_sums_are_not_least(self):
        one = least_web(STEP, 3, (1, 0))
        both = sum_of([one, least_web(STEP, 3, (0, 1))])
        self.assertIsNone(shown_least(both))
        self.assertIsNone(shown_least(changed(both, [plain(3, 1), plain(3, 1)])))


if __name__ == "__main__":
    unittest.main()
