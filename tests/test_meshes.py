"""Points [63] and [64]: meshes, and kinds told by counts."""

import unittest
from itertools import product

from boughwebs.errors import BadKind, BadMaps, BadNet, BadPrime, BadRow, BadWeb, NotGood, OtherNet, TooMany
from boughwebs.kinds import kinds_of, maps_of_kinds
from boughwebs.leasts import least_web
from boughwebs.loom import next_root, successors
from boughwebs.maps import behind, count_maps, is_map, maps
from boughwebs.meshes import counts_of_kind, is_mesh, kind_of_counts, mesh_of, middle_of_mesh, through_or_back
from boughwebs.nets import Net
from boughwebs.roots import roots
from boughwebs.solving import rank
from boughwebs.tables import Table, empty, plain, plus, scaled
from boughwebs.webs import Web, bare, sum_of
from tests.drawn import (FIVE, GOOD, ONE, PAIR, RING, STAR, STEP, STRAIGHT, drawn, drawn_kind, drawn_map, drawn_sizes,
                         drawn_web, good_nets, turned_about)


def bent(draw, mapping):
    """The map with one number changed."""
    places = [k for k, table in enumerate(mapping) if table.tall and table.wide]
    at = draw.choice(places)
    table = mapping[at]
    lines = [list(line) for line in table.lines]
    line = draw.randrange(table.tall)
    lines[line][draw.randrange(table.wide)] += 1
    return mapping[:at] + (Table(table.prime, table.tall, table.wide, lines),) + mapping[at + 1:]


def is_plain_mesh(net, prime, root, into, onto):
    """Whether these tuples of Tables make a mesh, by the words of the document."""
    one, middle, last = least_web(net, prime, root), middle_of_mesh(net, prime, root), next_root(net, root)
    if not is_map(one, middle, into):
        return False
    if last is None:
        return onto is None and all(rank(table) == table.tall for table in into)
    if not is_map(middle, least_web(net, prime, last), onto):
        return False
    noughts = tuple(empty(prime, b, a) for a, b in zip(root, last))
    return (behind(into, onto) == noughts and all(rank(table) == table.wide for table in into)
            and all(rank(table) == table.tall for table in onto))


class MeshTest(unittest.TestCase):

    def test_by_hand(self):
        self.assertEqual(middle_of_mesh(net=STEP, prime=3, root=(0, 1)), least_web(STEP, 3, (1, 1)))
        self.assertEqual(middle_of_mesh(STEP, 3, (1, 0)), bare(STEP, 3, (0, 0)))
        self.assertEqual(middle_of_mesh(ONE, 3, (1,)), bare(ONE, 3, (0,)))
        self.assertEqual(mesh_of(ONE, 3, (1,)), ((empty(3, 0, 1),), None))
        into, onto = mesh_of(net=STEP, prime=3, root=(0, 1))
        self.assertEqual([table.tall for table in into + onto], [1, 1, 1, 0])
        self.assertEqual(mesh_of(STEP, 3, (1, 1))[1], None)
        self.assertEqual(middle_of_mesh(STRAIGHT, 3, (0, 1, 1)),
                         sum_of([least_web(STRAIGHT, 3, (1, 1, 1)), least_web(STRAIGHT, 3, (0, 1, 0))]))

    def test_every_root(self):
        draw = drawn(151)
        for net in GOOD + good_nets(152):
            prime = draw.choice((2, 3, 7))
            some = roots(net) if net.places < 7 else draw.sample(roots(net), 12)
            for root in some:
                middle = middle_of_mesh(net, prime, root)
                webs = [least_web(net, prime, other) for other in successors(net, root)]
                self.assertEqual(middle, sum_of(webs) if webs else bare(net, prime, (0,) * net.places))
                found = mesh_of(net, prime, root)
                self.assertEqual(found, mesh_of(net, prime, root))
                self.assertIs(type(found), tuple)
                self.assertTrue(is_plain_mesh(net, prime, root, *found))
                self.assertIs(is_mesh(net=net, prime=prime, root=root, thing=found), True)

    def test_bent_in_one_part(self):
        draw = drawn(153)
        seen = {True: 0, False: 0}
        for net in (STEP, STRAIGHT, STAR) + tuple(good_nets(154, 5)):
            for root in roots(net):
                into, onto = mesh_of(net, 3, root)
                things = [(into, into), (onto, onto), (None, onto), (into[:-1], onto), (list(into), onto)]
                if any(table.tall for table in into):
                    things.append((bent(draw, into), onto))
                    things.append((tuple(scaled(table, 2) for table in into), onto))
                    things.append((tuple(scaled(table, 0) for table in into), onto))
                if onto is not None:
                    things.append((into, bent(draw, onto)))
                    things.append((into, tuple(scaled(table, 2) for table in onto)))
                    things.append((into, tuple(scaled(table, 0) for table in onto)))
                    things.append((into, None))
                else:
                    things.append((into, ()))
                for thing in things:
                    told = isinstance(thing[0], tuple) and is_plain_mesh(net, 3, root, *thing)
                    self.assertIs(is_mesh(net, 3, root, thing), told)
                    seen[told] += 1
                for thing in (None, [into, onto], (into,), (into, onto, None), 3, "", {}, into):
                    self.assertIs(is_mesh(net, 3, root, thing), False)
        self.assertGreater(seen[True], 20)
        self.assertGreater(seen[False], 60)

    def test_errors_in_their_order(self):
        for net in (PAIR, RING, FIVE):
            for work in (middle_of_mesh, mesh_of):
                self.assertRaises(NotGood, work, net, 4, None)
            self.assertRaises(NotGood, is_mesh, net, 4, None, None)
        for prime in (None, 4, True, 101):
            for work in (middle_of_mesh, mesh_of):
                self.assertRaises(BadPrime, work, STEP, prime, None)
            self.assertRaises(BadPrime, is_mesh, STEP, prime, None, None)
        for root in (None, (2, 1), (0, 0), (1, True), [1, 1], (1,)):
            for work in (middle_of_mesh, mesh_of):
                self.assertRaises(BadRow, work, STEP, 3, root)
            self.assertRaises(BadRow, is_mesh, STEP, 3, root, None)
        for net in (None, 3, bare(STEP, 3, (1, 1))):
            for work in (lambda: middle_of_mesh(net, 4, None), lambda: mesh_of(net, 4, None),
                         lambda: is_mesh(net, 4, None, None), lambda: counts_of_kind(net, None),
                         lambda: kind_of_counts(net, None), lambda: through_or_back(net, 4, None, None, None)):
                with self.assertRaises(BadNet) as caught:
                    work()
                self.assertIsNone(caught.exception.part)


class ThroughTest(unittest.TestCase):

    def judge(self, net, root, web, mapping):
        """What is told is as told; the way it went."""
        one, middle = least_web(net, web.prime, root), middle_of_mesh(net, web.prime, root)
        found = through_or_back(net, web.prime, root, web, mapping)
        self.assertIs(type(found), tuple)
        way, told = found
        if way == "through":
            self.assertTrue(is_map(middle, web, told))
            self.assertEqual(behind(mesh_of(net, web.prime, root)[0], told), mapping)
        else:
            self.assertEqual(way, "back")
            self.assertTrue(is_map(web, one, told))
            self.assertEqual(behind(mapping, told), tuple(plain(web.prime, size) for size in one.sizes))
        self.assertEqual(through_or_back(net=net, prime=web.prime, root=root, web=web, mapping=mapping), found)
        return way

    def test_drawn_maps(self):
        draw = drawn(155)
        seen = {"through": 0, "back": 0}
        for net in GOOD + good_nets(156, 6):
            for prime in (2, 5):
                for _ in range(5):
                    root = draw.choice(roots(net))
                    web = drawn_web(draw, net, prime, drawn_sizes(draw, net, 2))
                    if draw.random() < 0.6:
                        web = turned_about(draw, sum_of([web, least_web(net, prime, root)]))
                    mapping = drawn_map(draw, least_web(net, prime, root), web)
                    seen[self.judge(net, root, web, mapping)] += 1
        self.assertGreater(min(seen.values()), 15)

    def test_just_one_of_the_two(self):
        draw = drawn(157)
        for net in (STEP, STRAIGHT, STAR):
            for root in roots(net):
                one = least_web(net, 3, root)
                web = turned_about(draw, sum_of([one, drawn_web(draw, net, 3, drawn_sizes(draw, net, 1))]))
                into = mesh_of(net, 3, root)[0]
                middle = middle_of_mesh(net, 3, root)
                through = {tuple(table.lines for table in behind(into, drawn)) for drawn in spanned(middle, web)}
                for mapping in spanned(one, web):
                    way = self.judge(net, root, web, mapping)
                    self.assertIs(way == "through", tuple(table.lines for table in mapping) in through)

    def test_to_other_least_webs(self):
        draw = drawn(158)
        for net in good_nets(159, 6):
            for root in draw.sample(roots(net), min(4, len(roots(net)))):
                one = least_web(net, 2, root)
                for other in roots(net):
                    web = least_web(net, 2, other)
                    for mapping in maps(one, web):
                        way = self.judge(net, root, web, mapping)
                        self.assertEqual(way, "back" if other == root else "through")
                noughts = tuple(empty(2, size, size) for size in root)
                self.assertEqual(self.judge(net, root, one, noughts), "through")
                nothing = bare(net, 2, (0,) * net.places)
                self.assertEqual(self.judge(net, root, nothing, tuple(empty(2, 0, size) for size in root)), "through")

    def test_too_many(self):
        great = bare(STRAIGHT, 2, (60, 60, 60))
        noughts = tuple(empty(2, 60, size) for size in (0, 1, 1))
        self.assertEqual(through_or_back(STRAIGHT, 2, (0, 1, 1), great, noughts)[0], "through")
        arms = Net(6, [(0, 1), (1, 2), (3, 2), (4, 3), (2, 5)])
        root = max(roots(arms), key=sum)
        for root, size, many in ((root, 60, True), ((0, 0, 0, 0, 0, 1), 60, False), (root, 20, False)):
            wide = bare(arms, 2, (size,) * 6)
            noughts = tuple(empty(2, size, number) for number in root)
            if many:
                with self.assertRaises(TooMany) as caught:
                    through_or_back(arms, 2, root, wide, noughts)
                self.assertEqual(caught.exception.most, 300)
                self.assertRaises(BadMaps, through_or_back, arms, 2, root, wide, None)
            else:
                self.assertEqual(through_or_back(arms, 2, root, wide, noughts)[0], "through")

    def test_too_many_at_a_successor(self):
        fork = Net(5, [(0, 3), (1, 3), (2, 3), (4, 0)])
        seen = 0
        for root in roots(fork):
            wide = bare(fork, 2, (60,) * 5)
            noughts = tuple(empty(2, 60, number) for number in root)
            if max(sum(some) for some in [root] + successors(fork, root)) > 5:
                seen += sum(root) <= 5
                with self.assertRaises(TooMany) as caught:
                    through_or_back(fork, 2, root, wide, noughts)
                self.assertEqual(caught.exception.most, 300)
            else:
                self.assertEqual(through_or_back(fork, 2, root, wide, noughts)[0], "through")
        self.assertGreater(seen, 0)

    def test_errors_in_their_order(self):
        web, other = bare(STEP, 3, (1, 1)), bare(STEP, 5, (1, 1))
        for thing in (None, 3, STEP):
            with self.assertRaises(BadWeb) as caught:
                through_or_back(PAIR, 4, None, thing, None)
            self.assertIsNone(caught.exception.part)
        self.assertRaises(NotGood, through_or_back, PAIR, 4, None, web, None)
        self.assertRaises(BadPrime, through_or_back, STEP, 4, None, other, None)
        self.assertRaises(BadRow, through_or_back, STEP, 3, (2, 1), other, None)
        for wrong in (other, bare(PAIR, 3, (1, 1)), bare(Net(2, [(1, 0)]), 3, (1, 1))):
            self.assertRaises(OtherNet, through_or_back, STEP, 3, (1, 1), wrong, None)
        for mapping in (None, [plain(3, 1)] * 2, (plain(3, 1),), (plain(5, 1), plain(5, 1)), (plain(3, 1), plain(3, 1)),
                        (plain(3, 2), plain(3, 1))):
            self.assertRaises(BadMaps, through_or_back, STEP, 3, (1, 1), web, mapping)


def spanned(one, other):
    """All maps, as sums of multiples of those that maps tells."""
    found = maps(one, other)
    noughts = tuple(empty(one.prime, b, a) for a, b in zip(one.sizes, other.sizes))
    for many in product(range(one.prime), repeat=len(found)):
        total = noughts
        for number, mapping in zip(many, found):
            total = tuple(plus(a, scaled(b, number)) for a, b in zip(total, mapping))
        yield total


class CountsTest(unittest.TestCase):

    def test_counts(self):
        draw = drawn(160)
        for net in GOOD + good_nets(161):
            for _ in range(4):
                kind = drawn_kind(draw, net)
                counts = counts_of_kind(net=net, kind=kind)
                self.assertEqual(list(counts), sorted(roots(net)))
                for root in draw.sample(roots(net), min(12, len(roots(net)))):
                    self.assertEqual(counts[root], maps_of_kinds(net, {root: 1}, kind))
                found = kind_of_counts(net=net, counts=counts)
                self.assertEqual(found, kind)
                self.assertEqual(list(found), sorted(found))
        self.assertEqual(counts_of_kind(STEP, {}), {(0, 1): 0, (1, 0): 0, (1, 1): 0})
        self.assertEqual(kind_of_counts(STEP, {(1, 1): 0, (0, 1): 0, (1, 0): 0}), {})
        self.assertEqual(counts_of_kind(STEP, {(1, 1): 10 ** 30}), {(0, 1): 10 ** 30, (1, 0): 0, (1, 1): 10 ** 30})

    def test_just_the_counts_of_kinds(self):
        told = {}
        for row in product(range(4), repeat=2):
            for kind in kinds_of(STEP, row):
                told[tuple(counts_of_kind(STEP, kind).values())] = kind
        for numbers in product(range(4), repeat=3):
            counts = dict(zip([(0, 1), (1, 0), (1, 1)], numbers))
            self.assertEqual(kind_of_counts(STEP, counts), told.get(numbers))
        self.assertIn(None, [kind_of_counts(STEP, dict(zip([(0, 1), (1, 0), (1, 1)], numbers)))
                             for numbers in product(range(3), repeat=3)])

    def test_no_counts(self):
        good = {(0, 1): 1, (1, 0): 0, (1, 1): 1}
        self.assertEqual(kind_of_counts(STEP, good), {(1, 1): 1})
        for wrong in (None, 3, [], (), {}, list(good.items()), {(0, 1): 1, (1, 0): 0}, {**good, (2, 1): 0},
                      {(0, 1): 1, (1, 0): 0, (2, 1): 0}, {**good, (1, 0): -1}, {**good, (1, 0): True},
                      {**good, (1, 0): None}, {**good, (1, 0): 0.0}, {(0, 1): 1, (1, 0): 0, (1, True): 1},
                      {(0, 1): 1, (1, 0): 0, "11": 1}, {(0, 1): 1, (1, 0): 0, None: 1}):
            self.assertRaises(BadKind, kind_of_counts, STEP, wrong)
        for wrong in (None, [], {(2, 1): 1}, {(1, 1): 0}, {(1, 1): True}):
            self.assertRaises(BadKind, counts_of_kind, STEP, wrong)
        for net in (PAIR, RING):
            self.assertRaises(NotGood, counts_of_kind, net, None)
            self.assertRaises(NotGood, kind_of_counts, net, None)

    def test_counts_of_webs(self):
        draw = drawn(162)
        for net in (STEP, STRAIGHT, STAR):
            kind = drawn_kind(draw, net, 2)
            webs = [least_web(net, 3, root) for root in kind for _ in range(kind[root])]
            web = sum_of(webs) if webs else bare(net, 3, (0,) * net.places)
            counts = {root: count_maps(least_web(net, 3, root), web) for root in roots(net)}
            self.assertEqual(counts, counts_of_kind(net, kind))
            self.assertEqual(kind_of_counts(net, counts), kind)
        self.assertEqual(counts_of_kind(STEP, {(1, 0): 1}), {(0, 1): 0, (1, 0): 1, (1, 1): 1})
        self.assertEqual(count_maps(least_web(STEP, 3, (1, 1)), Web(STEP, 3, (1, 1), [plain(3, 1)])), 1)


if __name__ == "__main__":
    unittest.main()
