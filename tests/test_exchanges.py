"""Point [75]: exchanges between splittings."""

import unittest
from itertools import permutations

from boughwebs.errors import BadNumber, BadSplit, BadWeb, TooMany
from boughwebs.exchanges import exchange, exchanges, is_exchanges, is_matched, matched
from boughwebs.maps import behind, count_maps, is_alike
from boughwebs.nets import Net
from boughwebs.solving import inverse, is_whole
from boughwebs.splits import is_split, split_web
from boughwebs.tables import Table, beside, corner, empty, plain, scaled, times
from boughwebs.webs import Web, bare, changed, sum_of
from tests.drawn import (FIVE, GOOD, PAIR, RING, SQUARE, STAR, STEP, STRAIGHT, TRIPLE, drawn, drawn_map, drawn_sizes,
                         drawn_web, drawn_whole)


def columns_of_webs(split):
    """For each web of the splitting its columns, as tuples of Tables."""
    webs, way = split
    found, ahead = [], [0] * len(way)
    for web in webs:
        columns = []
        for place, size in enumerate(web.sizes):
            lines = [line[ahead[place]:ahead[place] + size] for line in way[place].lines]
            columns.append(Table(web.prime, way[place].tall, size, lines))
            ahead[place] += size
        found.append(tuple(columns))
    return found


def split_of(web, webs, columns):
    """The pair of these webs and the way that has these columns."""
    way = tuple(beside([empty(web.prime, size, 0)] + [some[place] for some in columns])
                for place, size in enumerate(web.sizes))
    return (tuple(webs), way)


def put(web, one, at, other, to):
    """Other's web and its columns put in the place of one's."""
    webs, columns = list(one[0]), columns_of_webs(one)
    webs[at], columns[at] = other[0][to], columns_of_webs(other)[to]
    return split_of(web, webs, columns)


def other_splitting(draw, web):
    """A splitting of the web, led about by a map with an inverse, in another order, in other coordinates."""
    webs, way = split_web(web)
    turn = None
    while turn is None or not all(is_whole(table) for table in turn):
        turn = drawn_map(draw, web, web)
    webs, columns = list(webs), columns_of_webs((webs, behind(way, turn)))
    order = list(range(len(webs)))
    draw.shuffle(order)
    webs, columns = [webs[k] for k in order], [columns[k] for k in order]
    for k, some in enumerate(webs):
        coordinates = [drawn_whole(draw, web.prime, size) for size in some.sizes]
        webs[k] = changed(some, coordinates)
        columns[k] = tuple(times(table, inverse(turned)) for table, turned in zip(columns[k], coordinates))
    return split_of(web, webs, columns)


def drawn_splittings(seed, count):
    """Webs with two splittings each, on good nets, on two arrows side by side, and on others."""
    draw = drawn(seed)
    for net in GOOD + [PAIR] * 4 + [TRIPLE, RING, SQUARE, FIVE]:
        for prime in (2, 3):
            for _ in range(count):
                web = drawn_web(draw, net, prime, drawn_sizes(draw, net, 2), 0.6)
                if draw.random() < 0.5:
                    web = sum_of([web, web])
                if net not in GOOD and prime ** count_maps(web, web) > 600:
                    continue
                yield draw, web, split_web(web), other_splitting(draw, web)


class ExchangeTest(unittest.TestCase):

    def test_every_index(self):
        seen = later = 0
        for draw, web, one, other in drawn_splittings(231, 4):
            self.assertTrue(is_split(web, other))
            for at in range(len(one[0])):
                told = [to for to in range(len(other[0]))
                        if is_split(web, put(web, one, at, other, to)) and is_split(web, put(web, other, to, one, at))]
                found = exchange(web=web, one=one, other=other, at=at)
                self.assertEqual(found, told[0])
                seen += 1
                later += found > 0
        self.assertGreater(seen, 120)
        self.assertGreater(later, 40)

    def test_both_have_to_be_splittings(self):
        # Other's first web can stand for one's first one, but one's first web cannot stand for it there.
        web = bare(Net(1, []), 5, (2,))
        point = bare(Net(1, []), 5, (1,))
        one = ((point, point), (Table(5, 2, 2, [[1, 0], [0, 1]]),))
        other = ((point, point), (Table(5, 2, 2, [[1, 1], [1, 0]]),))
        self.assertTrue(is_split(web, put(web, one, 0, other, 0)))
        self.assertFalse(is_split(web, put(web, other, 0, one, 0)))
        self.assertTrue(is_split(web, put(web, other, 1, one, 0)))
        self.assertEqual(exchange(web, one, other, 0), 1)
        # One's second web can stand for other's second one, but other's second web cannot stand for it.
        self.assertEqual(exchange(web, one, other, 1), 0)

    def test_indexes_beyond(self):
        web = bare(STEP, 3, (1, 1))
        split = split_web(web)
        for at in (-1, 2, True, False, None, 0.0, "0", (0,), 10 ** 20):
            with self.assertRaises(BadNumber) as caught:
                exchange(web, split, split, at)
            self.assertEqual(caught.exception.part, "at")
        nothing = bare(STEP, 3, (0, 0))
        self.assertRaises(BadNumber, exchange, nothing, split_web(nothing), split_web(nothing), 0)

    def test_itself(self):
        for draw, web, one, other in drawn_splittings(232, 1):
            indexes = list(range(len(one[0])))
            self.assertEqual([exchange(web, one, one, at) for at in indexes], indexes)
            self.assertIs(is_exchanges(web, one, one, [(at, at) for at in indexes]), True)


class ExchangesTest(unittest.TestCase):

    def judge(self, web, one, other, thing):
        """Whether all pairs, put one after another into one, leave splittings."""
        for at, to in thing:
            one = put(web, one, at, other, to)
            if not is_split(web, one):
                return False
        return True

    def test_put_one_after_another(self):
        most = 0
        for draw, web, one, other in drawn_splittings(233, 4):
            found = exchanges(web=web, one=one, other=other)
            self.assertIs(type(found), list)
            self.assertEqual([at for at, to in found], list(range(len(one[0]))))
            self.assertEqual(sorted(to for at, to in found), list(range(len(other[0]))))
            self.assertTrue(self.judge(web, one, other, found))
            self.assertEqual(exchanges(web, one, other), found)
            self.assertIs(is_exchanges(web=web, one=one, other=other, thing=found), True)
            most = max(most, len(found))
        self.assertGreater(most, 5)

    def test_all_orders(self):
        seen = {True: 0, False: 0}
        for draw, web, one, other in drawn_splittings(234, 2):
            if len(one[0]) <= 4:
                for order in permutations(range(len(one[0]))):
                    thing = list(enumerate(order))
                    told = self.judge(web, one, other, thing)
                    self.assertIs(is_exchanges(web, one, other, thing), told)
                    seen[told] += 1
        self.assertGreater(min(seen.values()), 30)

    def test_no_exchanges(self):
        web = bare(STEP, 3, (1, 2))
        split = split_web(web)
        self.assertIs(is_exchanges(web, split, split, [(0, 0), (1, 1), (2, 2)]), True)
        self.assertIs(is_exchanges(web, split, split, [(0, 1), (1, 0), (2, 2)]), False)
        for thing in (None, 3, "", {}, [], ((0, 0), (1, 1), (2, 2)), [[0, 0], [1, 1], [2, 2]], [(0, 0), (1, 1)],
                      [(0, 0), (2, 2), (1, 1)], [(0, 0), (1, 1), (2, 1)], [(0, 0), (0, 1), (2, 2)],
                      [(0, 0), (1, 1), (2, 2), (3, 3)], [(0, 0), (1, 1), (2, 3)], [(0, 0), (1, 1), (2, -1)],
                      [(False, 0), (1, 1), (2, 2)], [(0, 0), (True, 1), (2, 2)], [(0, 0), (1, True), (2, 2)],
                      [(0, 0), (1, 1), (2, None)], [(0, 0), (1, 1), (2,)], [(0, 0), (1, 1), None],
                      [(0, 0, 0), (1, 1, 1), (2, 2, 2)], [0, 1, 2], web):
            self.assertIs(is_exchanges(web, split, split, thing), False)
        nothing = bare(STEP, 3, (0, 0))
        none = split_web(nothing)
        self.assertEqual((exchanges(nothing, none, none), matched(nothing, none, none)), ([], []))
        self.assertIs(is_exchanges(nothing, none, none, []), True)
        self.assertIs(is_exchanges(nothing, none, none, ()), False)
        self.assertIs(is_matched(nothing, none, none, []), True)
        self.assertIs(is_matched(nothing, none, none, ()), False)

    def test_knots_side_by_side(self):
        # On two arrows side by side there are webs of equal sizes that are not alike.
        first = Web(PAIR, 3, (1, 1), [plain(3, 1), plain(3, 1)])
        second = Web(PAIR, 3, (1, 1), [plain(3, 1), empty(3, 1, 1)])
        web = sum_of([first, second, second])
        one = ((first, second, second), tuple(plain(3, size) for size in web.sizes))
        self.assertTrue(is_split(web, one))
        for order in permutations(range(3)):
            found = split_of(web, [one[0][k] for k in order], [columns_of_webs(one)[k] for k in order])
            self.assertEqual(exchange(web, one, found, 0), order.index(0))
            self.assertEqual(dict(exchanges(web, one, found))[0], order.index(0))
            self.assertEqual(matched(web, one, found)[0][0], order.index(0))


class MatchedTest(unittest.TestCase):

    def test_matched(self):
        for draw, web, one, other in drawn_splittings(235, 4):
            found = matched(web=web, one=one, other=other)
            self.assertIs(type(found), list)
            self.assertEqual(sorted(to for to, mapping in found), list(range(len(other[0]))))
            for some, (to, mapping) in zip(one[0], found):
                self.assertTrue(is_alike(some, other[0][to], mapping))
            self.assertEqual(matched(web, one, other), found)
            self.assertIs(is_matched(web=web, one=one, other=other, thing=found), True)
            twice = [(to, tuple(scaled(table, web.prime + 1) for table in mapping)) for to, mapping in found]
            self.assertIs(is_matched(web, one, other, twice), True)
            if found:
                noughts = [(to, tuple(scaled(table, 0) for table in mapping)) for to, mapping in found]
                to, mapping = found[0]
                for thing in (noughts, tuple(found), found[1:], found + found[:1], [list(pair) for pair in found],
                              [(to, list(mapping))] + found[1:], [(to, None)] + found[1:], [(to,)] + found[1:],
                              [(None, mapping)] + found[1:], [(-1, mapping)] + found[1:], [None] + found[1:],
                              [(len(found), mapping)] + found[1:], [(bool(to), mapping)] + found[1:],
                              [(to, mapping, None)] + found[1:], [(mapping, to)] + found[1:], None, 3, {}, "", ()):
                    self.assertIs(is_matched(web, one, other, thing), False)
            if len(found) > 1:
                self.assertIs(is_matched(web, one, other, [found[0], found[0]] + found[2:]), False)
                swapped = [(found[1][0], found[0][1]), (found[0][0], found[1][1])] + found[2:]
                told = all(is_alike(some, other[0][to], mapping) for some, (to, mapping) in zip(one[0], swapped))
                self.assertIs(is_matched(web, one, other, swapped), told)


class ErrorsTest(unittest.TestCase):

    def works(self, web, one, other):
        return [lambda: exchange(web, one, other, None), lambda: exchanges(web, one, other),
                lambda: is_exchanges(web, one, other, None), lambda: matched(web, one, other),
                lambda: is_matched(web, one, other, None)]

    def test_no_splittings(self):
        for net in (STEP, STRAIGHT, STAR, PAIR):
            web = bare(net, 2, (1,) * net.places)
            good = split_web(web)
            webs, way = good
            for bad in (None, 3, (), [], [webs, way], (webs,), (webs, list(way)), (list(webs), way),
                        (webs, tuple(scaled(table, 0) for table in way)), ((web,), way), (webs[1:], way), {}, web,
                        split_web(bare(net, 3, (1,) * net.places))):
                for pair in ((bad, good), (good, bad), (bad, bad), (bad, None)):
                    for work in self.works(web, *pair):
                        self.assertRaises(BadSplit, work)

    def test_too_many_comes_last(self):
        knot = Table(2, 10, 10, [[int(k == at + 1) for k in range(10)] for at in range(10)])
        web = Web(PAIR, 2, (10, 10), [plain(2, 10), knot])
        late = ((web,), (plain(2, 10), plain(2, 10)))
        for work in self.works(web, late, late)[1:] + [lambda: exchange(web, late, late, 0)]:
            with self.assertRaises(TooMany) as caught:
                work()
            self.assertEqual(caught.exception.most, 600)
        for pair in ((late, None), (None, late), (late, ((), late[1]))):
            for work in self.works(web, *pair):
                self.assertRaises(BadSplit, work)
        for at in (None, 1, -1, True):
            self.assertRaises(BadNumber, exchange, web, late, late, at)

    def test_no_webs(self):
        for thing in (None, 3, STEP, [bare(STEP, 3, (1, 1))]):
            for work in self.works(thing, None, None):
                with self.assertRaises(BadWeb) as caught:
                    work()
                self.assertIsNone(caught.exception.part)

    def test_corners_of_ways(self):
        # The way of a sum of splittings lies along the diagonal.
        one, other = bare(STEP, 3, (1, 1)), Web(STEP, 3, (1, 1), [plain(3, 1)])
        web = sum_of([one, other])
        first, second = split_web(one), split_web(other)
        both = (first[0] + second[0], tuple(corner([a, b]) for a, b in zip(first[1], second[1])))
        self.assertTrue(is_split(web, both))
        self.assertEqual(len(exchanges(web, both, split_web(web))), 3)


if __name__ == "__main__":
    unittest.main()
