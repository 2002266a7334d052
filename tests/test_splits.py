"""Points [71], [72] and [76]: least webs, splittings, kinds, summands."""

import unittest
from itertools import product

from boughwebs.errors import BadKind, BadNet, BadPrime, BadWeb, NotGood, TooMany
from boughwebs.kinds import kind_row, sum_kind
from boughwebs.leasts import least_web
from boughwebs.maps import behind, count_maps, is_alike, is_map, maps
from boughwebs.mirrors import point_web
from boughwebs.nets import Net, turned_net
from boughwebs.roots import form, roots
from boughwebs.solving import is_whole
from boughwebs.splits import is_least, is_split, is_summands, kind_of, split_web, summands, whole_of
from boughwebs.tables import Table, corner, empty, plain, plus, scaled, times
from boughwebs.webs import Web, bare, changed, sum_of, turned_web
from tests.drawn import (ARMS_SIX, FIVE, GOOD, NETS, ONE, PAIR, RING, SQUARE, STAR, STEP, STRAIGHT, TRIPLE, all_maps,
                         arms_net, drawn, drawn_kind, drawn_sizes, drawn_web, good_nets, turned_about)

OTHERS = [PAIR, TRIPLE, RING, SQUARE, FIVE, arms_net((2, 2, 2), (1, 3)), arms_net((1, 1, 1, 1, 1), (0, 2))]


def nothing(net, prime):
    return bare(net, prime, (0,) * net.places)


def joined(net, prime, webs):
    return sum_of(webs) if webs else nothing(net, prime)


def is_plainly_least(web):
    """Whether rooms are not all empty and each map to itself has an inverse or fades; small webs alone."""
    for mapping in all_maps(web, web):
        powers = list(mapping)
        for _ in range(max(web.sizes)):
            powers = [times(a, b) for a, b in zip(powers, mapping)]
        fades = all(not any(any(line) for line in power.lines) for power in powers)
        if not fades and not all(is_whole(table) for table in mapping):
            return False
    return any(web.sizes)


def with_number(mapping, place):
    """The map with its first number at the place changed."""
    table = mapping[place]
    lines = [list(line) for line in table.lines]
    lines[0][0] += 1
    return mapping[:place] + (Table(table.prime, table.tall, table.wide, lines),) + mapping[place + 1:]


class WholeTest(unittest.TestCase):

    def test_whole_of(self):
        draw = drawn(181)
        for net in good_nets(182):
            for prime in (2, 5):
                kind = drawn_kind(draw, net, 2, 3)
                webs = [least_web(net, prime, root) for root in sorted(kind) for _ in range(kind[root])]
                told = whole_of(net=net, prime=prime, kind=dict(reversed(list(kind.items()))))
                self.assertEqual(told, joined(net, prime, webs))
        self.assertEqual(whole_of(STEP, 3, {}), nothing(STEP, 3))
        self.assertEqual(whole_of(STEP, 3, {(0, 1): 60}).sizes, (0, 60))

    def test_errors_in_their_order(self):
        for net in (None, 3, point_web(STEP, 3, 0)):
            with self.assertRaises(BadNet) as caught:
                whole_of(net, 4, None)
            self.assertIsNone(caught.exception.part)
        for net in (PAIR, RING, FIVE):
            self.assertRaises(NotGood, whole_of, net, 4, None)
        for prime in (None, 4, True, 101):
            self.assertRaises(BadPrime, whole_of, STEP, prime, None)
        for kind in (None, [], {(2, 1): 61}, {(1, 1): 0}, {(1, 1): True}, (((1, 1), 1),)):
            self.assertRaises(BadKind, whole_of, STEP, 3, kind)
        for kind in ({(0, 1): 61}, {(0, 1): 30, (1, 1): 31}, {(1, 1): 10 ** 40}):
            with self.assertRaises(BadWeb) as caught:
                whole_of(STEP, 3, kind)
            self.assertEqual(caught.exception.part, "sizes")


class LeastTest(unittest.TestCase):

    def test_on_good_nets(self):
        draw = drawn(183)
        seen = {True: 0, False: 0}
        for net in GOOD + good_nets(184, 7):
            self.assertIs(is_least(web=nothing(net, 3)), False)
            for root in draw.sample(roots(net), min(4, len(roots(net)))):
                for web in (turned_about(draw, least_web(net, 3, root)), drawn_web(draw, net, 3, root, 0.6),
                            drawn_web(draw, net, 3, drawn_sizes(draw, net, 2))):
                    told = count_maps(web, web) == 1
                    self.assertIs(is_least(web), told)
                    seen[told] += 1
        self.assertGreater(min(seen.values()), 20)
        self.assertIs(is_least(bare(STAR, 2, (60, 60, 60, 60))), False)

    def test_against_all_maps(self):
        draw = drawn(185)
        seen = {True: 0, False: 0}
        for net, most in ((ONE, 2), (STEP, 2), (PAIR, 2), (TRIPLE, 2), (RING, 1), (SQUARE, 1), (CLASHES, 1)):
            for prime in (2, 3):
                for _ in range(12):
                    web = drawn_web(draw, net, prime, drawn_sizes(draw, net, most))
                    if prime ** sum(size * size for size in web.sizes) > 7000:
                        continue
                    if net in OTHERS and prime ** count_maps(web, web) > 600:
                        self.assertRaises(TooMany, is_least, web)
                        continue
                    told = is_plainly_least(web)
                    self.assertIs(is_least(web), told)
                    seen[told] += 1
        self.assertGreater(min(seen.values()), 20)

    def test_least_pairs_with_more_maps(self):
        # Knots on two arrows side by side: maps to itself are polynomials of one table.
        for prime, many in ((2, 3), (3, 2)):
            knot = Table(prime, many, many, [[int(k == at + 1) for k in range(many)] for at in range(many)])
            self.assertIs(is_least(Web(PAIR, prime, (many, many), [plain(prime, many), knot])), True)
            both = corner([knot, Table(prime, 1, 1, [[1]])])
            web = Web(PAIR, prime, (many + 1, many + 1), [plain(prime, many + 1), both])
            self.assertIs(is_least(web), False)
            self.assertEqual(sorted(some.sizes[0] for some in split_web(web)[0]), [1, many])
        # Over 2 the polynomial 1 + x + x * x has no root: four maps make a field.
        field = Table(2, 2, 2, [[0, 1], [1, 1]])
        web = Web(PAIR, 2, (2, 2), [plain(2, 2), field])
        self.assertEqual(count_maps(web, web), 2)
        self.assertIs(is_least(web), True)
        self.assertIs(is_least(Web(PAIR, 5, (2, 2), [plain(5, 2), Table(5, 2, 2, [[0, 1], [1, 1]])])), True)
        self.assertIs(is_least(Web(PAIR, 11, (2, 2), [plain(11, 2), Table(11, 2, 2, [[0, 1], [1, 1]])])), False)

    def test_six_hundred(self):
        # Just 512 maps, and 1024; 529, and 841; 243, and 729.
        for prime, many, refused in ((2, 9, False), (2, 10, True), (23, 2, False), (29, 2, True), (3, 5, False),
                                     (3, 6, True), (97, 1, False)):
            knot = Table(prime, many, many, [[int(k == at + 1) for k in range(many)] for at in range(many)])
            web = Web(PAIR, prime, (many, many), [plain(prime, many), knot])
            self.assertEqual(count_maps(web, web), many)
            if refused:
                for work in (lambda: is_least(web), lambda: split_web(web),
                             lambda: is_split(web, ((web,), (plain(prime, many),) * 2))):
                    with self.assertRaises(TooMany) as caught:
                        work()
                    self.assertEqual(caught.exception.most, 600)
            else:
                self.assertIs(is_least(web), True)
                self.assertEqual(split_web(web)[0], (web,))
                self.assertIs(is_split(web, ((web,), (plain(prime, many),) * 2)), True)
        for net in OTHERS:
            great = bare(net, 2, (3,) * net.places)
            self.assertRaises(TooMany, is_least, great)
            self.assertRaises(TooMany, split_web, great)
            self.assertIs(is_least(nothing(net, 97)), False)

    def test_no_webs(self):
        for thing in (None, 3, STEP, [nothing(STEP, 3)]):
            for work in (is_least, kind_of, split_web, summands):
                with self.assertRaises(BadWeb) as caught:
                    work(thing)
                self.assertIsNone(caught.exception.part)
            self.assertRaises(BadWeb, is_split, thing, None)
            self.assertRaises(BadWeb, is_summands, thing, None)


CLASHES = Net(4, [(0, 1), (2, 1), (2, 3)])


class SplitTest(unittest.TestCase):

    def judge(self, web):
        """A splitting as told; its webs."""
        found = split_web(web=web)
        self.assertIs(type(found), tuple)
        webs, way = found
        self.assertIs(type(webs), tuple)
        self.assertTrue(is_alike(joined(web.net, web.prime, list(webs)), web, way))
        self.assertEqual(split_web(web), found)
        self.assertIs(is_split(web=web, thing=found), True)
        return webs

    def test_kinds_in_other_coordinates(self):
        draw = drawn(186)
        for net in GOOD + good_nets(187):
            for prime in (2, 3, 97):
                kind = drawn_kind(draw, net)
                web = turned_about(draw, whole_of(net, prime, kind))
                found = kind_of(web=web)
                self.assertEqual(found, kind)
                self.assertEqual(list(found), sorted(found))
                webs = self.judge(web)
                told = [least_web(net, prime, root) for root in sorted(kind) for _ in range(kind[root])]
                self.assertEqual(list(webs), told)

    def test_any_tables(self):
        draw = drawn(188)
        for net in GOOD + good_nets(189):
            for prime, density in ((2, 0.5), (3, 0.9), (7, 0.3)):
                web = drawn_web(draw, net, prime, drawn_sizes(draw, net, 4), density)
                kind = kind_of(web)
                self.assertEqual(kind_row(net, kind), web.sizes)
                self.assertEqual([some.sizes for some in self.judge(web)],
                                 [root for root in kind for _ in range(kind[root])])

    def test_empty_rooms(self):
        for net in NETS:
            web = nothing(net, 3)
            self.assertEqual(split_web(web), ((), (empty(3, 0, 0),) * net.places))
            self.assertTrue(is_split(web, split_web(web)))
        self.assertEqual(kind_of(nothing(STAR, 3)), {})
        self.assertEqual(kind_of(bare(STAR, 3, (0, 2, 0, 1))), {(0, 0, 0, 1): 1, (0, 1, 0, 0): 2})

    def test_great_rooms(self):
        draw = drawn(190)
        for net, size in ((STEP, 60), (STAR, 20), (ARMS_SIX, 12)):
            web = drawn_web(draw, net, 2, (size,) * net.places)
            kind = kind_of(web)
            self.assertEqual(kind_row(net, kind), web.sizes)
            self.assertEqual(len(self.judge(web)), sum(kind.values()))
        wide = bare(STAR, 3, (60, 60, 60, 60))
        self.assertEqual(kind_of(wide), {tuple(int(k == at) for k in range(4)): 60 for at in range(4)})
        self.assertEqual(len(split_web(wide)[0]), 240)

    def test_other_nets(self):
        draw = drawn(191)
        seen = {}
        for net in OTHERS:
            for prime in (2, 3, 5):
                for _ in range(10):
                    web = drawn_web(draw, net, prime, drawn_sizes(draw, net, 2), 0.6)
                    if prime ** count_maps(web, web) > 600:
                        self.assertRaises(TooMany, split_web, web)
                        seen["many"] = seen.get("many", 0) + 1
                        continue
                    webs = self.judge(web)
                    self.assertTrue(all(is_least(some) for some in webs))
                    seen[len(webs)] = seen.get(len(webs), 0) + 1
        for key in (1, 2, 3, "many"):
            self.assertGreater(seen[key], 5)

    def test_few_maps_that_part(self):
        # All maps of the web to itself that part it are multiples of two.
        draw = drawn(199)
        for prime in (2, 3, 5, 7, 11, 13, 17, 19, 23):
            web = sum_of([Web(PAIR, prime, (1, 1), [plain(prime, 1), Table(prime, 1, 1, [[number]])])
                          for number in (0, 1)])
            for _ in range(6):
                other = turned_about(draw, web)
                self.assertEqual(count_maps(other, other), 2)
                self.assertEqual([some.sizes for some in self.judge(other)], [(1, 1), (1, 1)])

    def test_no_kinds_on_other_nets(self):
        for net in OTHERS:
            web = nothing(net, 3)
            for work in (lambda: kind_of(web), lambda: summands(web), lambda: is_summands(web, [])):
                self.assertRaises(NotGood, work)


class IsSplitTest(unittest.TestCase):

    def test_other_splittings(self):
        draw = drawn(192)
        for net in (STEP, STRAIGHT, STAR, PAIR, RING):
            for _ in range(6):
                web = drawn_web(draw, net, 3, drawn_sizes(draw, net, 2))
                if net in OTHERS and 3 ** count_maps(web, web) > 600:
                    continue
                webs, way = split_web(web)
                if not webs:
                    continue
                turned = [turned_about(draw, some) for some in webs]
                found = tuple(turned) if all(form(net, some.sizes) == 1 for some in webs) else None
                if found is not None and net not in OTHERS:
                    back = [maps(some, other)[0] for some, other in zip(found, webs)]
                    both = tuple(corner([one[k] for one in back]) for k in range(net.places))
                    self.assertIs(is_split(web, (found, behind(both, way))), True)
                    self.assertIs(is_split(web, (found, way)), is_alike(sum_of(list(found)), web, way))
                # In another order the columns have to be in it, too.
                order = list(range(len(webs)))[::-1]
                told = is_alike(sum_of([webs[k] for k in order]), web, way)
                self.assertIs(is_split(web, (tuple(webs[k] for k in order), way)), told)

    def test_with_one_thing_otherwise(self):
        draw = drawn(193)
        seen = {True: 0, False: 0}
        for net in (STEP, STRAIGHT, STAR, ARMS_SIX):
            for _ in range(6):
                web = drawn_web(draw, net, 3, drawn_sizes(draw, net, 2))
                webs, way = split_web(web)
                for place, size in enumerate(web.sizes):
                    if size:
                        thing = (webs, with_number(way, place))
                        told = is_alike(sum_of(list(webs)), web, thing[1])
                        self.assertIs(is_split(web, thing), told)
                        seen[told] += 1
                if len(webs) > 1:
                    # Two told as one: the same sum, but one that is not least.
                    thing = ((sum_of(list(webs[:2])),) + webs[2:], way)
                    self.assertIs(is_split(web, thing), False)
                if webs:
                    self.assertIs(is_split(web, (webs + (nothing(net, 3),), way)), False)
                    self.assertIs(is_split(web, (webs[1:], way)), False)
                    self.assertIs(is_split(web, ((), way)), False)
                    self.assertIs(is_split(web, (webs, tuple(scaled(table, 0) for table in way))), False)
                    self.assertIs(is_split(web, (webs, tuple(scaled(table, 2) for table in way))), True)
        self.assertGreater(seen[False], 20)

    def test_no_splittings(self):
        web = Web(STEP, 3, (1, 2), [Table(3, 2, 1, [[1], [2]])])
        webs, way = split_web(web)
        self.assertIs(is_split(web, (webs, way)), True)
        other, turned = [least_web(net, prime, webs[0].sizes) for net, prime in ((STEP, 5), (Net(2, [(1, 0)]), 3))]
        for thing in (None, 3, "", (), [], [webs, way], (webs,), (webs, way, None), (list(webs), way),
                      (webs, list(way)), (webs, None), (None, way), (webs, way[:1]), ((None,), way), ((3, 4), way), ((turned,) + webs[1:], way),
                      ((other,) + webs[1:], way), ((point_web(STRAIGHT, 3, 0),) + webs[1:], way), (way, webs), {},
                      (webs, (plain(5, 1), plain(5, 2))), web, ((webs,), way)):
            self.assertIs(is_split(web, thing), False)

    def test_a_sum_that_is_too_great(self):
        web = bare(STEP, 3, (60, 1))
        webs, way = split_web(web)
        self.assertIs(is_split(web, (webs, way)), True)
        self.assertIs(is_split(web, (webs + webs, way)), False)

    def test_least_is_looked_at_last(self):
        # The second web cannot be judged; what is told of a way or of the first web comes ahead of that.
        knot = Table(2, 10, 10, [[int(k == at + 1) for k in range(10)] for at in range(10)])
        long = Web(PAIR, 2, (10, 10), [plain(2, 10), knot])
        point = point_web(PAIR, 2, 0)
        empty_web = nothing(PAIR, 2)
        web = sum_of([point, long])
        way = (plain(2, 11), plain(2, 10))
        self.assertRaises(TooMany, is_split, web, ((point, long), way))
        self.assertIs(is_split(web, ((point, long), way[:1])), False)
        self.assertIs(is_split(web, ((point, long), tuple(scaled(table, 0) for table in way))), False)
        self.assertIs(is_split(web, ((long, point), way)), False)
        self.assertIs(is_split(web, ((empty_web, point, long), way)), False)
        self.assertRaises(TooMany, is_split, web, ((point, long, empty_web), way))


class SummandsTest(unittest.TestCase):

    def test_as_told(self):
        draw = drawn(194)
        for net in GOOD + good_nets(195):
            for prime in (2, 7):
                web = drawn_web(draw, net, prime, drawn_sizes(draw, net, 2))
                found = summands(web=web)
                webs, way = split_web(web)
                self.assertIs(type(found), list)
                self.assertEqual([root for root, into, onto in found], [some.sizes for some in webs])
                ahead = [0] * net.places
                total = tuple(empty(prime, size, size) for size in web.sizes)
                for at, (root, into, onto) in enumerate(found):
                    least = least_web(net, prime, root)
                    self.assertTrue(is_map(least, web, into) and is_map(web, least, onto))
                    for place, table in enumerate(into):
                        lines = [line[ahead[place]:ahead[place] + root[place]] for line in way[place].lines]
                        self.assertEqual(table, Table(prime, web.sizes[place], root[place], lines))
                        ahead[place] += root[place]
                    for k, (other, _, back) in enumerate(found):
                        same = tuple(plain(prime, size) for size in root)
                        none = tuple(empty(prime, b, a) for a, b in zip(root, other))
                        self.assertEqual(behind(into, back), same if k == at else none)
                    total = tuple(plus(a, b) for a, b in zip(total, behind(onto, into)))
                self.assertEqual(total, tuple(plain(prime, size) for size in web.sizes))
                self.assertIs(is_summands(web=web, thing=found), True)

    def test_judged(self):
        draw = drawn(196)
        for net in (STEP, STRAIGHT, STAR, ARMS_SIX):
            kind = {root: 2 for root in draw.sample(roots(net), 2)}
            web = turned_about(draw, whole_of(net, 5, kind))
            found = summands(web)
            root, into, onto = found[0]
            place = [k for k, size in enumerate(root) if size][0]
            self.assertIs(is_summands(web, found), True)
            self.assertIs(is_summands(web, [found[1], found[0]] + found[2:]), True)
            three = tuple(scaled(table, 3) for table in into)
            two = tuple(scaled(table, 2) for table in onto)
            self.assertIs(is_summands(web, [(root, three, two)] + found[1:]), True)
            for thing in (tuple(found), [list(found[0])] + found[1:], found[1:], found + found[:1], found[::-1], [],
                          [(list(root), into, onto)] + found[1:], [(root, into)] + found[1:],
                          [(root, into, onto, None)] + found[1:], [(root, onto, into)] + found[1:],
                          [(root, three, onto)] + found[1:], [(root, into, two)] + found[1:],
                          [(root, with_number(into, place), onto)] + found[1:],
                          [(root, into, with_number(onto, place))] + found[1:], [found[0], found[0]] + found[2:],
                          [(root, into, found[1][2]), (root, found[1][1], onto)] + found[2:],
                          [(None, into, onto)] + found[1:], [(root, None, onto)] + found[1:], [None] + found[1:],
                          [(root, list(into), onto)] + found[1:], [(root, into, list(onto))] + found[1:],
                          [(root, into, None)] + found[1:], [(root, into, onto[:-1])] + found[1:], None, 3, "", {}, web, split_web(web)):
                self.assertIs(is_summands(web, thing), False)

    def test_roots_ascend(self):
        web = bare(STEP, 3, (1, 1))
        found = summands(web)
        self.assertIs(is_summands(web, found), True)
        self.assertIs(is_summands(web, found[::-1]), False)
        self.assertIs(is_summands(nothing(STEP, 3), []), True)
        self.assertEqual(summands(nothing(STEP, 3)), [])
        self.assertIs(is_summands(nothing(STEP, 3), ()), False)
        self.assertIs(is_summands(nothing(STEP, 3), found), False)


class AcrossTest(unittest.TestCase):

    def test_kinds_of_sums_and_of_turned_webs(self):
        draw = drawn(197)
        for net in GOOD + good_nets(198):
            for prime in (2, 5):
                one, other = [drawn_web(draw, net, prime, drawn_sizes(draw, net, 2)) for _ in range(2)]
                kind = kind_of(one)
                self.assertEqual(kind_of(sum_of([one, other])), sum_kind(net, [kind, kind_of(other)]))
                self.assertEqual(kind_of(turned_about(draw, one)), kind)
                self.assertEqual(kind_of(turned_web(one)), kind)
                self.assertEqual(turned_web(one).net, turned_net(net))

    def test_just_one_kind(self):
        # Two whole webs are alike only if their kinds are equal: they have unlike numbers of maps.
        for net in (STEP, STRAIGHT):
            for many in product(range(3), repeat=3):
                kind = {root: k for root, k in zip(roots(net)[-3:], many) if k}
                self.assertEqual(kind_of(whole_of(net, 3, kind)), kind)
        web = Web(STRAIGHT, 3, (1, 2, 1), [Table(3, 2, 1, [[1], [2]]), Table(3, 1, 2, [[1, 1]])])
        self.assertEqual(kind_of(web), {(0, 1, 1): 1, (1, 1, 0): 1})
        self.assertEqual(kind_of(changed(web, [plain(3, 1), plain(3, 2), plain(3, 1)])), kind_of(web))


if __name__ == "__main__":
    unittest.main()
