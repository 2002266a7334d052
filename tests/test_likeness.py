"""Point [74]: likeness and summands."""

import unittest

from boughwebs.errors import BadWeb, NotGood, OtherNet
from boughwebs.likeness import alike, is_alike_told, is_summand_told, shared_kind, summand
from boughwebs.maps import behind, count_maps, is_alike, is_map
from boughwebs.splits import is_least, kind_of, split_web, whole_of
from boughwebs.tables import Table, empty, plain, scaled
from boughwebs.webs import Web, bare, changed, sum_of
from tests.drawn import (FIVE, GOOD, PAIR, RING, STAR, STEP, STRAIGHT, drawn, drawn_kind, drawn_sizes, drawn_web,
                         good_nets, turned_about)


def with_number(mapping):
    """The map with one number changed."""
    place = [k for k, table in enumerate(mapping) if table.tall and table.wide][0]
    table = mapping[place]
    lines = [list(line) for line in table.lines]
    lines[0][0] += 1
    return mapping[:place] + (Table(table.prime, table.tall, table.wide, lines),) + mapping[place + 1:]


def with_items(told):
    """The tuple with one of its items otherwise, or of another kind."""
    for at, item in enumerate(told):
        for other in (None, list(item) if isinstance(item, tuple) else 77, "map", (1, 1), -1, True, False, 1.0):
            if other is not item and not (type(other) is type(item) and other == item):
                yield told[:at] + (other,) + told[at + 1:]
    yield told[:-1]
    yield told + (None,)
    yield list(told)


class AlikeTest(unittest.TestCase):

    def test_alike(self):
        draw = drawn(211)
        for net in GOOD + good_nets(212):
            for prime in (2, 5):
                kind = drawn_kind(draw, net)
                one, other = [turned_about(draw, whole_of(net, prime, kind)) for _ in range(2)]
                found = alike(one=one, other=other)
                self.assertIs(type(found), tuple)
                self.assertEqual((len(found), found[0]), (2, "map"))
                self.assertTrue(is_alike(one, other, found[1]))
                self.assertEqual(alike(one, other), found)
                self.assertIs(is_alike_told(one=one, other=other, thing=found), True)
                twice = tuple(scaled(table, 3) for table in found[1])
                self.assertIs(is_alike_told(one, other, ("map", twice)), True)
                for thing in (("map",), ("map", None), ("maps", found[1]), ["map", found[1]], ("map", list(found[1])),
                              ("map", found[1], None), found[1], None, 3, "map", ("root", (1,), 1, 0), {}):
                    self.assertIs(is_alike_told(one, other, thing), False)
                if any(one.sizes):
                    noughts = tuple(scaled(table, 0) for table in twice)
                    self.assertIs(is_alike_told(one, other, ("map", noughts)), False)
                    bent = with_number(found[1])
                    self.assertIs(is_alike_told(one, other, ("map", bent)), is_alike(one, other, bent))

    def test_not_alike(self):
        draw = drawn(213)
        seen = 0
        for net in GOOD + good_nets(214):
            for row in (True, False):
                one = drawn_web(draw, net, 3, drawn_sizes(draw, net, 2))
                other = drawn_web(draw, net, 3, one.sizes if row else drawn_sizes(draw, net, 2), 0.3)
                first, second = kind_of(one), kind_of(other)
                unlike = [root for root in sorted({**first, **second}) if first.get(root, 0) != second.get(root, 0)]
                for a, b, kind, more in ((one, other, first, second), (other, one, second, first)):
                    found = alike(a, b)
                    self.assertIs(is_alike_told(a, b, found), True)
                    if not unlike:
                        self.assertEqual(found[0], "map")
                        continue
                    root = unlike[0]
                    self.assertEqual(found, ("root", root, kind.get(root, 0), more.get(root, 0)))
                    for thing in with_items(found):
                        self.assertIs(is_alike_told(a, b, thing), False)
                    for other_root in unlike[1:]:
                        thing = ("root", other_root, kind.get(other_root, 0), more.get(other_root, 0))
                        self.assertIs(is_alike_told(a, b, thing), False)
                    seen += 1
        self.assertGreater(seen, 30)

    def test_itself_and_empty_rooms(self):
        for net in GOOD:
            nothing = bare(net, 3, (0,) * net.places)
            one = bare(net, 3, (1,) * net.places)
            self.assertEqual(alike(nothing, nothing), ("map", (empty(3, 0, 0),) * net.places))
            self.assertTrue(is_alike(one, one, alike(one, one)[1]))
            least = (0,) * (net.places - 1) + (1,)
            self.assertEqual(alike(one, nothing), ("root", least, 1, 0))
            self.assertEqual(alike(nothing, one), ("root", least, 0, 1))

    def test_by_hand(self):
        one = Web(STEP, 3, (1, 1), [plain(3, 1)])
        other = bare(STEP, 3, (1, 1))
        self.assertEqual(alike(one, other), ("root", (0, 1), 0, 1))
        self.assertEqual(alike(other, one), ("root", (0, 1), 1, 0))
        self.assertIs(is_alike_told(one, other, ("root", (0, 1), 0, 1)), True)
        self.assertIs(is_alike_told(one, other, ("root", (1, 0), 0, 1)), False)
        self.assertIs(is_alike_told(one, other, ("root", (0, True), 0, 1)), False)
        self.assertIs(is_alike_told(one, other, ("root", (0, 1), False, True)), False)
        self.assertIs(is_alike_told(one, one, ("map", (plain(3, 1), plain(3, 1)))), True)
        self.assertIs(is_alike_told(one, one, ("map", (plain(3, 1), scaled(plain(3, 1), 2)))), False)

    def test_a_third_web(self):
        draw = drawn(215)
        for net in GOOD:
            for _ in range(5):
                one, other, third = [drawn_web(draw, net, 2, drawn_sizes(draw, net, 1)) for _ in range(3)]
                both = alike(sum_of([one, third]), sum_of([other, third]))
                self.assertEqual(both[0], alike(one, other)[0])

    def test_a_third_web_on_other_nets(self):
        # There is an inverse between the sums just where there is one between the webs.
        draw = drawn(216)
        seen = {True: 0, False: 0}
        for net in (PAIR, RING):
            for _ in range(30):
                one, other, third = [drawn_web(draw, net, 2, drawn_sizes(draw, net, 1), 0.5) for _ in range(3)]
                sums = [sum_of([web, third]) for web in (one, other)]
                if one.sizes != other.sizes or max(2 ** count_maps(web, web) for web in sums) > 600:
                    continue
                told = [self.like_plainly(*pair) for pair in ((one, other), sums)]
                self.assertIs(told[0], told[1])
                seen[told[0]] += 1
        self.assertGreater(min(seen.values()), 1)

    def like_plainly(self, one, other):
        """Whether each least web has as many maps into both, asked of the webs of their splittings."""
        some = split_web(one)[0] + split_web(other)[0]
        self.assertTrue(all(is_least(web) for web in some))
        return all(count_maps(web, one) == count_maps(web, other) for web in some)


class SummandTest(unittest.TestCase):

    def test_there_and_back(self):
        draw = drawn(217)
        for net in GOOD + good_nets(218):
            for prime in (2, 5):
                one, rest = [drawn_web(draw, net, prime, drawn_sizes(draw, net, 2)) for _ in range(2)]
                for other in (turned_about(draw, sum_of([rest, one])), turned_about(draw, one), one):
                    found = summand(one=one, other=other)
                    self.assertIs(type(found), tuple)
                    name, into, onto = found
                    self.assertEqual(name, "maps")
                    self.assertTrue(is_map(one, other, into) and is_map(other, one, onto))
                    self.assertEqual(behind(into, onto), tuple(plain(prime, size) for size in one.sizes))
                    self.assertEqual(summand(one, other), found)
                    self.assertIs(is_summand_told(one=one, other=other, thing=found), True)
                    twice, half = [tuple(scaled(table, many) for table in mapping)
                                   for mapping, many in ((into, 2), (onto, (prime + 1) // 2))]
                    self.assertIs(is_summand_told(one, other, ("maps", twice, half)), prime > 2 or not any(one.sizes))
                    for thing in (("maps", into), ("maps", list(into), onto), ("map", into, onto), (into, onto), None,
                                  ("maps", into, onto, None), ["maps", into, onto], ("maps", None, onto),
                                  ("maps", into, None), 3, "maps", ("root", (1,), 1, 0)):
                        self.assertIs(is_summand_told(one, other, thing), False)
                    if any(one.sizes):
                        for there, back in ((with_number(into), onto), (into, with_number(onto))):
                            told = is_map(one, other, there) and is_map(other, one, back)
                            told = told and behind(there, back) == tuple(plain(prime, size) for size in one.sizes)
                            self.assertIs(is_summand_told(one, other, ("maps", there, back)), told)
                        nought = tuple(scaled(table, 0) for table in into)
                        self.assertIs(is_summand_told(one, other, ("maps", nought, onto)), False)

    def test_none(self):
        draw = drawn(219)
        seen = 0
        for net in GOOD + good_nets(220):
            for _ in range(3):
                one, other = [drawn_web(draw, net, 3, drawn_sizes(draw, net, 2)) for _ in range(2)]
                first, second = kind_of(one), kind_of(other)
                more = [root for root in sorted(first) if first[root] > second.get(root, 0)]
                found = summand(one, other)
                self.assertIs(is_summand_told(one, other, found), True)
                if not more:
                    self.assertEqual(found[0], "maps")
                    continue
                self.assertEqual(found, ("root", more[0], first[more[0]], second.get(more[0], 0)))
                for thing in with_items(found):
                    self.assertIs(is_summand_told(one, other, thing), False)
                for root in more[1:]:
                    thing = ("root", root, first[root], second.get(root, 0))
                    self.assertIs(is_summand_told(one, other, thing), False)
                noughts = [tuple(empty(3, b, a) for a, b in zip(some.sizes, web.sizes))
                           for some, web in ((one, other), (other, one))]
                self.assertIs(is_summand_told(one, other, ("maps",) + tuple(noughts)), False)
                seen += 1
        self.assertGreater(seen, 20)

    def test_empty_rooms(self):
        nothing, one = bare(STAR, 3, (0,) * 4), bare(STAR, 3, (1, 0, 0, 2))
        into, onto = tuple(empty(3, size, 0) for size in one.sizes), tuple(empty(3, 0, size) for size in one.sizes)
        self.assertEqual(summand(nothing, one), ("maps", into, onto))
        self.assertEqual(summand(one, nothing), ("root", (0, 0, 0, 1), 2, 0))
        self.assertEqual(summand(nothing, nothing), ("maps", (empty(3, 0, 0),) * 4, (empty(3, 0, 0),) * 4))

    def test_shared_kind(self):
        draw = drawn(221)
        for net in GOOD + good_nets(222, 6):
            one, other = [drawn_web(draw, net, 3, drawn_sizes(draw, net, 3)) for _ in range(2)]
            first, second = kind_of(one), kind_of(other)
            found = shared_kind(one=one, other=other)
            told = {root: min(first[root], second[root]) for root in sorted(first) if root in second}
            self.assertEqual(found, told)
            self.assertEqual(list(found), sorted(found))
            shared = whole_of(net, 3, found)
            for web in (one, other):
                self.assertEqual(summand(shared, web)[0], "maps")
        self.assertEqual(shared_kind(bare(STEP, 3, (1, 0)), bare(STEP, 3, (0, 1))), {})
        self.assertEqual(shared_kind(bare(STEP, 3, (3, 0)), bare(STEP, 3, (2, 1))), {(1, 0): 2})

    def test_errors_in_their_order(self):
        good = bare(STRAIGHT, 3, (1, 1, 1))
        works = (alike, summand, shared_kind, lambda one, other: is_alike_told(one, other, None),
                 lambda one, other: is_summand_told(one, other, None))
        for work in works:
            for one, other in ((None, good), (good, None), (STEP, 3), (bare(PAIR, 3, (1, 1)), 3)):
                with self.assertRaises(BadWeb) as caught:
                    work(one, other)
                self.assertIsNone(caught.exception.part)
            for other in (bare(STRAIGHT, 5, (1, 1, 1)), bare(STEP, 3, (1, 1)), bare(RING, 3, (1, 1, 1))):
                self.assertRaises(OtherNet, work, good, other)
                self.assertRaises(OtherNet, work, other, good)
            self.assertRaises(OtherNet, work, bare(PAIR, 3, (1, 1)), bare(PAIR, 5, (1, 1)))
            for net in (PAIR, RING, FIVE):
                web = bare(net, 3, (1,) * net.places)
                self.assertRaises(NotGood, work, web, web)
        self.assertIs(is_alike_told(good, changed(good, [plain(3, 1)] * 3), alike(good, good)), True)


if __name__ == "__main__":
    unittest.main()
