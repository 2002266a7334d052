"""Points [1] to [5]: what the package guarantees over all its modules, one after another."""

import unittest

from boughwebs.bars import bars_of, is_split_line, split_line
from boughwebs.bends import bends, is_shown_bending, shown_bending
from boughwebs.classes import class_tally
from boughwebs.countings import kind_tally, web_tally
from boughwebs.errors import TooMany, WebError
from boughwebs.evenwholes import even_whole
from boughwebs.fourforms import is_split_four, split_four
from boughwebs.fourlines import four_net, sum_of_fours
from boughwebs.joinings import count_joinings, joinings
from boughwebs.kinds import joinings_of_kinds, kind_row, kinds_of, maps_of_kinds
from boughwebs.ladders import dear_part, is_ladder, is_steady, ladder, witness
from boughwebs.leasts import least_web, root_word
from boughwebs.loft import Loft, told_kind
from boughwebs.maps import count_maps
from boughwebs.middles import middle_maps, middle_web
from boughwebs.mirrors import point_web
from boughwebs.nearness import barrier, distance, is_barrier, is_pairing, pairing, straight_net
from boughwebs.nets import Net
from boughwebs.pairforms import is_split_pair, split_pair
from boughwebs.pairs import sum_of_kind
from boughwebs.partcounts import part_tallies
from boughwebs.roots import form, pair_form, roots, shape
from boughwebs.rounds import unlike_webs
from boughwebs.shuttles import is_shuttle, nearness, shuttle
from boughwebs.splits import is_split, kind_of, split_web, whole_of
from boughwebs.tables import Table
from boughwebs.tallies import tally_at, tally_sum
from boughwebs.webs import Web, bare, changed, sum_of
from boughwebs.wholekinds import bad_number, bad_primes, kind_at, kind_of_whole
from boughwebs.wholesplits import is_whole_split, whole_split
from boughwebs.words import net_after, web_before
from tests.drawn import (CLASH, FIVE, GOOD, NETS, ONE, PAIR, RING, STAR, STEP, STRAIGHT, TRIPLE, drawn, drawn_kind,
                         drawn_sizes, drawn_web, error_of, turned_about)
from tests.test_loft import do, drawn_deed
from tests.test_wholes import drawn_numbers

ALL_PRIMES = (2, 3, 5, 7, 11, 13, 17, 19, 23, 29, 31, 37, 41, 43, 47, 53, 59, 61, 67, 71, 73, 79, 83, 89, 97)


class GuaranteesTest(unittest.TestCase):

    def test_a_each_web_is_one_sum_of_least_webs(self):
        draw = drawn(201)
        for prime in ALL_PRIMES:
            net = draw.choice(GOOD)
            kind = drawn_kind(draw, net, 2, 2)
            web = turned_about(draw, whole_of(net, prime, kind))
            self.assertEqual(kind_of(web), kind)
            webs, way = found = split_web(web)
            self.assertTrue(is_split(web, found))
            goal = sum_of(webs) if webs else bare(net, prime, (0,) * net.places)
            self.assertEqual(changed(goal, list(way)), web)

    def test_b_least_webs_by_mirrors(self):
        for net in GOOD:
            seen = {}
            for root in roots(net):
                word, place = root_word(net, root)
                self.assertNotIn((len(word), place), seen)
                seen[len(word), place] = root
                point = point_web(net_after(net, word), 3, place)
                self.assertEqual(least_web(net, 3, root), web_before(net, word, point))
                self.assertEqual(kind_of(least_web(net, 3, root)), {root: 1})

    def test_c_maps_and_joinings_by_the_form_and_by_tables(self):
        draw = drawn(202)
        for net in GOOD:
            for _ in range(4):
                prime = draw.choice((2, 3, 97))
                kinds = [drawn_kind(draw, net, 1, 2) for _ in range(2)]
                webs = [turned_about(draw, whole_of(net, prime, kind)) for kind in kinds]
                if sum(a * b for a, b in zip(webs[0].sizes, webs[1].sizes)) <= 300:
                    self.assertEqual(count_maps(*webs), maps_of_kinds(net, *kinds))
                    self.assertEqual(count_joinings(*webs), joinings_of_kinds(net, *kinds))
                    self.assertEqual(count_maps(*webs) - count_joinings(*webs),
                                     pair_form(net, webs[0].sizes, webs[1].sizes))

    def test_d_middle_webs(self):
        draw = drawn(203)
        for net in NETS:
            one, other = [drawn_web(draw, net, 3, drawn_sizes(draw, net, 1)) for _ in range(2)]
            for joining in joinings(one, other):
                middle = middle_web(one, other, joining)
                into, onto = middle_maps(one, other, joining)
                self.assertTrue(count_maps(middle, middle) < count_maps(sum_of([one, other]), sum_of([one, other])))
                self.assertEqual((into[0].tall, onto[0].wide), (middle.sizes[0], middle.sizes[0]))

    def test_e_bending_is_shown_or_barred(self):
        draw = drawn(204)
        for net in GOOD[:5]:
            for _ in range(3):
                row = drawn_sizes(draw, net, 2)
                one, other = [drawn_web(draw, net, 2, row) for _ in range(2)]
                found = shown_bending(one, other)
                self.assertTrue(is_shown_bending(one, other, found))
                self.assertEqual(found[0] == "bending", bends(net, kind_of(one), kind_of(other)))

    def test_f_steady_or_too_dear(self):
        draw = drawn(205)
        for net in GOOD[:6]:
            for _ in range(3):
                web = drawn_web(draw, net, 3, drawn_sizes(draw, net, 2))
                prices = tuple(draw.randrange(-3, 4) for _ in range(net.places))
                self.assertTrue(is_ladder(web, prices, None, ladder(web, prices, None)))
                if any(web.sizes):
                    self.assertEqual(is_steady(web, prices, None), dear_part(web, prices, None) is None)
                    self.assertEqual(is_steady(web, prices, None), witness(web, prices, None) is not None)

    def test_g_bars_and_how_near_they_are(self):
        draw = drawn(206)
        net = straight_net(4)
        for _ in range(12):
            one, other = [drawn_web(draw, net, 3, drawn_sizes(draw, net, 2)) for _ in range(2)]
            self.assertTrue(is_split_line(one, split_line(one)))
            for step in range(5):
                found, bar = pairing(bars_of(one), bars_of(other), step), barrier(bars_of(one), bars_of(other), step)
                both = shuttle(one, other, step)
                self.assertEqual((found is None, bar is None), (both is None, both is not None))
                self.assertTrue(is_pairing(bars_of(one), bars_of(other), step, found) if bar is None
                                else is_barrier(bars_of(one), bars_of(other), step, bar))
                self.assertTrue(both is None or is_shuttle(one, other, step, both))
            self.assertEqual(distance(bars_of(one), bars_of(other)), nearness(one, other))

    def test_h_beyond_good_nets(self):
        draw = drawn(207)
        for prime in (2, 97):
            pair = turned_about(draw, sum_of_kind(prime, (("down", 1), ("far", 2), ("turn", (1, 1), 1), ("up", 1))))
            self.assertTrue(is_split_pair(pair, split_pair(pair)))
            four = turned_about(draw, sum_of_fours(prime, (("early", 1, 2), ("knot", 0, 1, 2), ("late", 1, 4))))
            self.assertTrue(is_split_four(four, split_four(four)))
        for net in (PAIR, TRIPLE, RING, FIVE, four_net()):
            name, row = shape(net)
            self.assertIn(name, ("round", "wild"))
            self.assertTrue(form(net, row) <= 0)
            if sum(row) <= 6:
                # The greater the field, the more unlike webs of this row.
                many = [unlike_webs(net, prime, row) for prime in (7, 31, 97)]
                self.assertTrue(many[0] < many[1] < many[2])

    def test_i_numbers_of_webs_of_each_kind(self):
        for net, row in ((ONE, (12,)), (STEP, (4, 5)), (STRAIGHT, (2, 3, 2)), (CLASH, (2, 4, 2)), (STAR, (2, 1, 2, 3))):
            kinds = kinds_of(net, row)
            self.assertEqual(tally_sum([kind_tally(net, kind) for kind in kinds]), web_tally(net, row))
            if sum(row) <= 8:
                self.assertEqual(class_tally(net, row), (len(kinds),))
            self.assertEqual(sum(tally_at(kind_tally(net, kind), 97) for kind in kinds), tally_at(web_tally(net, row), 97))
        self.assertEqual(tally_at(part_tallies(STEP, {(1, 1): 2})[(1, 1)], 2), 3)

    def test_j_whole_numbers(self):
        draw = drawn(208)
        for net in GOOD:
            whole = drawn_numbers(draw, net, drawn_sizes(draw, net, 2), 5)
            kind = kind_of_whole(whole)
            self.assertTrue(is_whole_split(whole, whole_split(whole)))
            for prime in ALL_PRIMES + (101, 65537):
                self.assertEqual(kind_at(whole, prime) == kind, bad_number(whole) % prime != 0)
            try:
                self.assertTrue(all(told != kind for _, told in bad_primes(whole)))
            except TooMany:
                self.assertGreater(bad_number(whole), 10 ** 6)
            if sum(kind_row(net, kind)) <= 12:
                self.assertEqual(bad_number(even_whole(net, kind)), 1)

    def test_k_a_live_house(self):
        draw = drawn(209)
        for net in GOOD:
            loft = Loft(drawn_web(draw, net, 3, drawn_sizes(draw, net, 2)))
            webs = [loft.web]
            for _ in range(6):
                if max(loft.web.sizes) < 5:
                    do(loft, drawn_deed(draw, loft.web))
                    webs.append(loft.web)
                    self.assertEqual(told_kind(loft), kind_of(loft.web))
            while len(loft):
                self.assertEqual(loft.web, webs.pop())
                loft.undo()
            self.assertEqual([loft.web], webs)


class LimitsTest(unittest.TestCase):

    def test_primes_places_arrows_and_rooms(self):
        for prime in range(-3, 110):
            told = None if prime in ALL_PRIMES else ("BadPrime",)
            self.assertEqual(error_of(Table, prime, 1, 1, [[1]]), told)
            self.assertEqual(error_of(bare, ONE, prime, (60,)), told and ("BadWeb", "prime"))
        chain = [(k, k + 1) for k in range(8)]
        self.assertIsNone(error_of(Net, 8, chain[:7]))
        self.assertEqual(error_of(Net, 9, chain), ("BadNet", "places"))
        self.assertIsNone(error_of(Net, 2, [(0, 1)] * 12))
        self.assertEqual(error_of(Net, 2, [(0, 1)] * 13), ("BadNet", "arrows"))
        self.assertEqual(error_of(bare, ONE, 2, (61,)), ("BadWeb", "sizes"))
        self.assertEqual(error_of(Web, ONE, 2, (61,), []), ("BadWeb", "sizes"))
        self.assertIsNone(error_of(bare, STEP, 97, (60, 60)))

    def test_what_is_returned_is_new(self):
        loft = Loft(bare(STEP, 3, (1, 1)))
        loft.fade(0)
        for work in (lambda: kinds_of(STEP, (2, 2)), lambda: part_tallies(STEP, {(1, 1): 1}), lambda: told_kind(loft),
                     loft.log, lambda: split_pair(bare(PAIR, 3, (1, 1)))[1]):
            found = work()
            self.assertTrue(found)
            found.clear()
            self.assertTrue(work())

    def test_all_errors_are_web_errors(self):
        for work in (lambda: Net(0, []), lambda: Loft(None), lambda: kind_of_whole(None), lambda: sum_of([])):
            with self.assertRaises(WebError):
                work()
        self.assertTrue(issubclass(WebError, ValueError))


if __name__ == "__main__":
    unittest.main()
