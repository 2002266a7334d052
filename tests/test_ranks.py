"""Point [73]: ways to count."""

import unittest

from boughwebs.errors import BadRow, BadWeb, NotGood, TooMany
from boughwebs.kinds import kind_of_pairs
from boughwebs.leasts import least_web
from boughwebs.maps import behind, count_maps, maps
from boughwebs.mirrors import lost_points, mirrored
from boughwebs.nets import sinks
from boughwebs.ranks import count_fading, count_turns, counts_of, pairing_table, peeled
from boughwebs.roots import mirrored_row, roots
from boughwebs.solving import count_whole, is_whole, rank
from boughwebs.splits import kind_of, whole_of
from boughwebs.tables import Table, empty, plain, scaled, times
from boughwebs.webs import Web, bare
from tests.drawn import (ARMS_SIX, CLASH, FIVE, GOOD, ONE, PAIR, RING, STAR, STEP, STRAIGHT, all_maps, drawn,
                         drawn_kind, drawn_sizes, drawn_web, good_nets, turned_about)

BY_HAND = Web(STRAIGHT, 3, (1, 2, 1), [Table(3, 2, 1, ((1,), (2,))), Table(3, 1, 2, ((1, 1),))])


def plain_peeled(web):
    """What the document tells, step by step, with rooms up to 60."""
    found, done = [], []
    net = web.net
    while any(web.sizes):
        place = sinks(web.net)[0]
        row = tuple(int(k == place) for k in range(net.places))
        for k in reversed(done):
            row = mirrored_row(net, k, row)
        found.append((place, lost_points(web, place), row))
        done.append(place)
        web = mirrored(web, place)
    return found


def plain_pairing(web, root):
    """The numbers of all pairs of maps, each pair done one behind the other."""
    least = least_web(web.net, web.prime, root)
    there, back = maps(least, web), maps(web, least)
    lines = []
    for g in back:
        lines.append([])
        for f in there:
            both = behind(f, g)
            number = [table for table in both if table.tall][0].lines[0][0]
            assert both == tuple(scaled(plain(web.prime, size), number) for size in root)
            lines[-1].append(number)
    return Table(web.prime, len(back), len(there), lines)


class RanksTest(unittest.TestCase):

    def test_by_hand(self):
        self.assertEqual(kind_of(BY_HAND), {(0, 1, 1): 1, (1, 1, 0): 1})
        self.assertEqual(peeled(web=BY_HAND), [(2, 0, (0, 0, 1)), (1, 1, (0, 1, 1)), (0, 0, (1, 1, 1)),
                                               (2, 0, (0, 1, 0)), (1, 1, (1, 1, 0))])
        self.assertEqual(count_turns(web=BY_HAND), 12)
        self.assertEqual(count_fading(web=BY_HAND), 3)
        self.assertEqual(pairing_table(web=BY_HAND, root=(0, 1, 1)), plain_pairing(BY_HAND, (0, 1, 1)))
        self.assertEqual(rank(pairing_table(BY_HAND, (1, 1, 0))), 1)
        self.assertEqual(rank(pairing_table(BY_HAND, (1, 1, 1))), 0)
        self.assertEqual(counts_of(web=BY_HAND), {(0, 0, 1): 1, (0, 1, 0): 1, (0, 1, 1): 2, (1, 0, 0): 0,
                                                  (1, 1, 0): 1, (1, 1, 1): 1})

    def test_four_ways_agree(self):
        draw = drawn(201)
        for net in GOOD + good_nets(202, 6):
            for prime in (2, 3):
                web = drawn_web(draw, net, prime, drawn_sizes(draw, net, 3))
                kind = kind_of(web)
                for root in draw.sample(roots(net), min(8, len(roots(net)))):
                    self.assertEqual(rank(pairing_table(web, root)), kind.get(root, 0))
                self.assertEqual(kind_of_pairs([(row, many) for place, many, row in peeled(web) if many]), kind)
                counts = counts_of(web)
                self.assertEqual(list(counts), sorted(roots(net)))
                for root in draw.sample(roots(net), min(8, len(roots(net)))):
                    self.assertEqual(counts[root], count_maps(least_web(net, prime, root), web))

    def test_pairing_tables(self):
        draw = drawn(203)
        for net in (ONE, STEP, CLASH, STRAIGHT, STAR, ARMS_SIX):
            for prime in (2, 7):
                web = drawn_web(draw, net, prime, drawn_sizes(draw, net, 2))
                for root in draw.sample(roots(net), min(6, len(roots(net)))):
                    self.assertEqual(pairing_table(web, root), plain_pairing(web, root))
        self.assertEqual(pairing_table(bare(STEP, 3, (0, 0)), (1, 1)), empty(3, 0, 0))
        # Two maps lead to this least web, none comes from it.
        self.assertEqual(pairing_table(bare(STEP, 3, (0, 2)), (1, 1)), empty(3, 2, 0))

    def test_sixty_maps_and_more(self):
        for web, root, size in ((bare(ONE, 2, (60,)), (1,), 60), (bare(STEP, 2, (60, 60)), (0, 1), 60),
                                (bare(STEP, 2, (3, 60)), (1, 0), 3)):
            found = pairing_table(web, root)
            self.assertEqual(rank(found), size)
        clash = bare(CLASH, 2, (30, 60, 31))
        for root in ((0, 1, 0), (1, 0, 0), (0, 0, 1), (1, 1, 0), (0, 1, 1)):
            self.assertEqual(rank(pairing_table(clash, root)), sum(a * b for a, b in zip(root, clash.sizes))
                             if sum(root) == 1 else 0)
        # From this root's least web there are 61 maps, or there are 61 to it.
        both = whole_of(CLASH, 2, {(1, 1, 0): 1, (0, 1, 1): 30, (1, 0, 0): 29, (0, 0, 1): 2})
        for web in (both, turned_about(drawn(204), both), bare(CLASH, 2, (30, 60, 31)), bare(STAR, 2, (30, 30, 30, 60))):
            for root in roots(web.net):
                there = count_maps_plainly(least_web(web.net, 2, root), web)
                back = count_maps_plainly(web, least_web(web.net, 2, root))
                if max(there, back) > 60:
                    with self.assertRaises(TooMany) as caught:
                        pairing_table(web, root)
                    self.assertEqual(caught.exception.most, 60)
                else:
                    found = pairing_table(web, root)
                    self.assertEqual((found.tall, found.wide), (back, there))

    def test_peeled(self):
        draw = drawn(205)
        for net in GOOD + good_nets(206):
            for prime in (2, 5):
                web = drawn_web(draw, net, prime, drawn_sizes(draw, net, 2))
                found = peeled(web)
                self.assertEqual(found, plain_peeled(web))
                rows = [row for place, many, row in found]
                self.assertEqual(len(set(rows)), len(rows))
                told = roots(net)
                for place, many, row in found:
                    self.assertIn(row if many or min(row) >= 0 else tuple(-number for number in row), told)
        self.assertEqual(peeled(bare(STAR, 3, (0, 0, 0, 0))), [])
        self.assertEqual(peeled(bare(ONE, 3, (4,))), [(0, 4, (1,))])

    def test_rooms_on_the_way_above_sixty(self):
        web = bare(STAR, 2, (50, 40, 30, 1))
        self.assertEqual(peeled(web)[0], (3, 1, (0, 0, 0, 1)))
        self.assertEqual(kind_of_pairs([(row, many) for place, many, row in peeled(web) if many]), kind_of(web))
        self.assertEqual(sum(many for place, many, row in peeled(web)), 121)
        self.assertRaises(TooMany, mirrored, web, 3)

    def test_turns_and_fading_tried_one_by_one(self):
        draw = drawn(207)
        seen = 0
        for net, most in ((ONE, 2), (STEP, 2), (CLASH, 1), (STRAIGHT, 1), (STAR, 1)):
            for prime in (2, 3):
                for _ in range(10):
                    web = drawn_web(draw, net, prime, drawn_sizes(draw, net, most))
                    if prime ** sum(size * size for size in web.sizes) > 7000:
                        continue
                    everything = all_maps(web, web)
                    turns = [mapping for mapping in everything if all(is_whole(table) for table in mapping)]
                    self.assertEqual(count_turns(web), len(turns))
                    fading = 0
                    for mapping in everything:
                        powers = mapping
                        for _ in range(3):
                            powers = tuple(times(a, b) for a, b in zip(powers, mapping))
                        fading += not any(number for table in powers for line in table.lines for number in line)
                    self.assertEqual(count_fading(web), fading)
                    seen += 1
        self.assertGreater(seen, 60)

    def test_turns_and_fading_of_great_webs(self):
        draw = drawn(208)
        for net in GOOD:
            for prime in (2, 97):
                kind = drawn_kind(draw, net, 3)
                web = turned_about(draw, whole_of(net, prime, kind))
                own = count_maps_plainly(web, web)
                told = prime ** (own - sum(many * many for many in kind.values()))
                for many in kind.values():
                    told *= count_whole(prime, many)
                self.assertEqual(count_turns(web), told)
                self.assertEqual(count_fading(web), prime ** (own - sum(kind.values())))
        self.assertEqual(count_turns(bare(ONE, 2, (60,))), count_whole(2, 60))
        self.assertEqual(count_fading(bare(ONE, 2, (60,))), 2 ** 3540)
        self.assertEqual((count_turns(bare(STEP, 5, (0, 0))), count_fading(bare(STEP, 5, (0, 0)))), (1, 1))

    def test_errors_in_their_order(self):
        works = (counts_of, peeled, count_turns, count_fading, lambda web: pairing_table(web, None))
        for work in works:
            for thing in (None, 3, STEP):
                with self.assertRaises(BadWeb) as caught:
                    work(thing)
                self.assertIsNone(caught.exception.part)
            for net in (PAIR, RING, FIVE):
                self.assertRaises(NotGood, work, bare(net, 3, (1,) * net.places))
        for root in (None, (2, 1), (0, 0), (1, True), [1, 1], (1,), (-1, 0)):
            self.assertRaises(BadRow, pairing_table, bare(STEP, 3, (60, 60)), root)
            self.assertRaises(BadRow, pairing_table, bare(STEP, 3, (1, 1)), root)


def count_maps_plainly(one, other):
    """How many maps there are, by the kinds where count_maps would refuse."""
    if sum(a * b for a, b in zip(one.sizes, other.sizes)) <= 300:
        return count_maps(one, other)
    net = one.net
    first, second = kind_of(one), kind_of(other)
    return sum(a * b * count_maps(least_web(net, 2, root), least_web(net, 2, some))
               for root, a in first.items() for some, b in second.items())


if __name__ == "__main__":
    unittest.main()
