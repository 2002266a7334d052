"""Point [31]: maps, and what they lead to 0, give and leave."""

import unittest
from itertools import product

from boughwebs.errors import BadMaps, BadWeb, OtherNet, TooMany
from boughwebs.maps import behind, count_maps, image_web, is_alike, is_map, kernel_web, maps, rest_web
from boughwebs.nets import Net
from boughwebs.roots import pair_form
from boughwebs.solving import is_whole, kernel, left_over, rank, tidy
from boughwebs.tables import Table, empty, plain, times
from boughwebs.webs import Web, bare, changed, sum_of, turned_web
from tests.drawn import (NETS, ONE, PAIR, RING, STEP, STRAIGHT, all_maps, drawn, drawn_map, drawn_sizes, drawn_table,
                         drawn_web, drawn_whole, leads_plainly)


def drawn_pairs(seed, most=2, primes=(2, 3, 7)):
    """Two webs of one net and prime each, often with some map between them that is not 0."""
    draw = drawn(seed)
    for net in NETS:
        for prime in primes:
            one, other = [drawn_web(draw, net, prime, drawn_sizes(draw, net, most)) for _ in range(2)]
            yield draw, one, other
            yield draw, one, sum_of([one, other])
            yield draw, sum_of([other, one]), other


def numbers_of(mapping):
    return tuple(number for table in mapping for line in table.lines for number in line)


def told_equations(one, other):
    """The Table of all equations, told by the words of the document; small webs alone."""
    starts, lines = [0], []
    for a, b in zip(one.sizes, other.sizes):
        starts.append(starts[-1] + a * b)
    for at, (tail, head) in enumerate(one.net.arrows):
        for i in range(other.sizes[head]):
            for j in range(one.sizes[tail]):
                line = [0] * starts[-1]
                for k in range(one.sizes[head]):
                    line[starts[head] + i * one.sizes[head] + k] += one.tables[at].lines[k][j]
                for k in range(other.sizes[tail]):
                    line[starts[tail] + k * one.sizes[tail] + j] -= other.tables[at].lines[i][k]
                lines.append(line)
    return Table(one.prime, len(lines), starts[-1], lines)


class MapsTest(unittest.TestCase):

    def test_against_all_tables(self):
        draw = drawn(41)
        for net in (ONE, STEP, STRAIGHT, PAIR, RING):
            for prime, most in ((2, 2), (3, 1), (5, 1)):
                for _ in range(6):
                    one, other = [drawn_web(draw, net, prime, drawn_sizes(draw, net, most)) for _ in range(2)]
                    if prime ** sum(a * b for a, b in zip(one.sizes, other.sizes)) > 5000:
                        continue
                    found, all_there = maps(one, other), all_maps(one, other)
                    self.assertEqual(prime ** len(found), len(all_there))
                    self.assertEqual(count_maps(one, other), len(found))
                    spanned = set()
                    for many in product(range(prime), repeat=len(found)):
                        total = [0] * sum(a * b for a, b in zip(one.sizes, other.sizes))
                        for number, mapping in zip(many, found):
                            total = [(a + number * b) % prime for a, b in zip(total, numbers_of(mapping))]
                        spanned.add(tuple(total))
                    self.assertEqual(spanned, {numbers_of(mapping) for mapping in all_there})

    def test_told_by_the_kernel(self):
        draw = drawn(42)
        for net in NETS:
            one, other = [drawn_web(draw, net, 3, drawn_sizes(draw, net, 2)) for _ in range(2)]
            table = told_equations(one, other) if len(net.arrows) < 6 else None
            found = maps(one=one, other=other)
            self.assertTrue(all(type(mapping) is tuple for mapping in found))
            columns = kernel(table)
            self.assertEqual([numbers_of(mapping) for mapping in found],
                             [tuple(line[k] for line in columns.lines) for k in range(columns.wide)])

    def test_they_are_maps(self):
        for draw, one, other in drawn_pairs(43):
            for mapping in maps(one, other):
                self.assertIs(is_map(one, other, mapping), True)
                self.assertTrue(leads_plainly(one, other, mapping))

    def test_facts_of_count_maps(self):
        for draw, one, other in drawn_pairs(44):
            for third in (one, other):
                both = sum_of([one, other])
                self.assertEqual(count_maps(both, third), count_maps(one, third) + count_maps(other, third))
                self.assertEqual(count_maps(third, both), count_maps(third, one) + count_maps(third, other))
            turn = [drawn_whole(draw, one.prime, size) for size in one.sizes]
            self.assertEqual(count_maps(changed(one, turn), other), count_maps(one, other))
            self.assertEqual(count_maps(other, changed(one, turn)), count_maps(other, one))
            self.assertEqual(count_maps(turned_web(other), turned_web(one)), count_maps(one, other))
            self.assertGreaterEqual(count_maps(one, other), pair_form(one.net, one.sizes, other.sizes))

    def test_rooms_of_size_nought(self):
        nothing, some = bare(STEP, 3, (0, 0)), bare(STEP, 3, (2, 1))
        self.assertEqual(maps(nothing, some), [])
        self.assertEqual(count_maps(some, nothing), 0)
        self.assertTrue(is_map(nothing, some, (empty(3, 2, 0), empty(3, 1, 0))))
        self.assertTrue(is_alike(nothing, nothing, (empty(3, 0, 0), empty(3, 0, 0))))
        self.assertEqual(len(maps(bare(STEP, 3, (2, 0)), bare(STEP, 3, (3, 9)))), 6)

    def test_one_place(self):
        found = maps(bare(ONE, 3, (2,)), bare(ONE, 3, (1,)))
        self.assertEqual(found, [(Table(3, 1, 2, [[1, 0]]),), (Table(3, 1, 2, [[0, 1]]),)])

    def test_too_many(self):
        for work in (maps, count_maps):
            work(bare(ONE, 2, (10,)), bare(ONE, 2, (30,)))
            work(bare(STEP, 2, (15, 15)), bare(STEP, 2, (10, 10)))
            for one, other in ((bare(ONE, 2, (43,)), bare(ONE, 2, (7,))),
                               (bare(STEP, 2, (15, 1)), bare(STEP, 2, (20, 1)))):
                with self.assertRaises(TooMany) as caught:
                    work(one, other)
                self.assertEqual(caught.exception.most, 300)
            with self.assertRaises(OtherNet):
                work(bare(ONE, 2, (43,)), bare(ONE, 3, (43,)))

    def test_just_three_hundred_numbers(self):
        draw = drawn(45)
        web = drawn_web(draw, STRAIGHT, 5, (10, 10, 10))
        self.assertIn(count_maps(web, web), range(1, 301))
        self.assertEqual(count_maps(bare(ONE, 2, (5,)), bare(ONE, 2, (60,))), 300)
        one, other = drawn_web(draw, PAIR, 7, (60, 2)), drawn_web(draw, PAIR, 7, (2, 60))
        self.assertLessEqual(pair_form(PAIR, (60, 2), (2, 60)), count_maps(one, other))

    def test_equal_each_time(self):
        for draw, one, other in drawn_pairs(46, primes=(3,)):
            found = maps(one, other)
            self.assertEqual(found, maps(one, other))
            found.clear()
            self.assertEqual(len(maps(one, other)), count_maps(one, other))


class IsMapTest(unittest.TestCase):

    def test_any_value(self):
        web = Web(STEP, 3, (1, 1), [plain(3, 1)])
        one, two = plain(3, 1), Table(3, 1, 1, [[2]])
        self.assertIs(is_map(web, web, (two, two)), True)
        self.assertIs(is_map(one=web, other=web, thing=(two, two)), True)
        for thing in ((one, two), [two, two], (two,), (two, two, two), None, 3, "ab", (1, 1), (two, None), (),
                      (((2,),), ((2,),)), (plain(5, 1), plain(5, 1)), (empty(3, 1, 2), one), {0: two, 1: two}, web):
            self.assertIs(is_map(web, web, thing), False)
            self.assertIs(is_alike(web, web, thing), False)

    def test_drawn_tables(self):
        for draw, one, other in drawn_pairs(47, 1):
            for _ in range(4):
                thing = tuple(drawn_table(draw, one.prime, b, a) for a, b in zip(one.sizes, other.sizes))
                self.assertIs(is_map(one, other, thing), leads_plainly(one, other, thing))

    def test_is_alike(self):
        for draw, one, other in drawn_pairs(48):
            for mapping in maps(one, one)[:4] + [drawn_map(draw, one, one)]:
                whole = all(is_whole(table) for table in mapping)
                self.assertIs(is_alike(one=one, other=one, thing=mapping), whole)
            turn = tuple(drawn_whole(draw, one.prime, size) for size in one.sizes)
            self.assertIs(is_alike(one, changed(one, turn), turn), True)
            self.assertIs(is_alike(one, changed(one, turn), list(turn)), False)

    def test_behind(self):
        for draw, one, other in drawn_pairs(49):
            first, second = drawn_map(draw, one, other), drawn_map(draw, other, one)
            found = behind(first, second)
            self.assertIs(type(found), tuple)
            self.assertEqual(found, behind(one=first, other=second))
            self.assertEqual(found, tuple(times(b, a) for a, b in zip(first, second)))
            self.assertTrue(is_map(one, one, found))
            for k, table in enumerate(found):
                self.assertLessEqual(rank(table), min(rank(first[k]), rank(second[k])))

    def test_behind_of_what_does_not_fit(self):
        one = (plain(3, 1), empty(3, 2, 1))
        for other in (None, 3, (), (plain(3, 1),), [plain(3, 1), plain(3, 2)], (plain(3, 1), plain(3, 3)),
                      (plain(5, 1), plain(5, 2)), (plain(3, 1), None), (plain(3, 1), ((1, 0), (0, 1))),
                      (plain(3, 1), plain(3, 2), plain(3, 0)), "ab"):
            with self.assertRaises(BadMaps):
                behind(one, other)
            with self.assertRaises(BadMaps):
                behind(other, one)
        self.assertEqual(len(behind((plain(3, 1),) * 8, (plain(3, 1),) * 8)), 8)
        with self.assertRaises(BadMaps):
            behind((plain(3, 1),) * 9, (plain(3, 1),) * 9)
        with self.assertRaises(BadMaps):
            behind((), ())
        self.assertEqual(behind(one, (plain(3, 1), empty(3, 0, 2))), (plain(3, 1), empty(3, 0, 1)))
        with self.assertRaises(BadMaps):
            behind((plain(3, 1), plain(5, 1)), (plain(3, 1), plain(5, 1)))


class MadeOfMapsTest(unittest.TestCase):

    def test_kernel_image_rest(self):
        for draw, one, other in drawn_pairs(50):
            mapping = drawn_map(draw, one, other)
            inner, into = kernel_web(one, other, mapping)
            self.assertEqual(into, tuple(kernel(table) for table in mapping))
            self.assertTrue(is_map(inner, one, into))
            image, onward = image_web(one=one, other=other, mapping=mapping)
            self.assertTrue(is_map(image, other, onward))
            for table, told in zip(mapping, onward):
                firsts = [next(k for k, a in enumerate(line) if a) for line in tidy(table).lines if any(line)]
                self.assertEqual(told.lines, tuple(tuple(line[k] for k in firsts) for line in table.lines))
            rest, onto = rest_web(one, other, mapping)
            self.assertEqual(onto, tuple(left_over(table) for table in mapping))
            self.assertTrue(is_map(other, rest, onto))
            self.assertEqual([a + b for a, b in zip(inner.sizes, image.sizes)], list(one.sizes))
            self.assertEqual([a + b for a, b in zip(rest.sizes, image.sizes)], list(other.sizes))
            self.assertTrue(all(not any(line) for table in behind(onward, onto) for line in table.lines))
            self.assertTrue(all(type(pair) is tuple for pair in (kernel_web(one, other, mapping), into, onward, onto)))

    def test_of_the_map_of_noughts_and_of_plain_maps(self):
        web = drawn_web(drawn(51), STRAIGHT, 5, (2, 1, 2))
        noughts = tuple(empty(5, size, size) for size in web.sizes)
        same = tuple(plain(5, size) for size in web.sizes)
        nothing = bare(STRAIGHT, 5, (0, 0, 0))
        self.assertEqual(kernel_web(web, web, noughts), (web, same))
        self.assertEqual(rest_web(web, web, noughts), (web, same))
        self.assertEqual(image_web(web, web, noughts)[0], nothing)
        self.assertEqual(image_web(web, web, same), (web, same))
        self.assertEqual(kernel_web(web, web, same)[0], nothing)
        self.assertEqual(rest_web(web, web, same)[0], nothing)

    def test_by_hand(self):
        web = Web(STEP, 3, (1, 1), [plain(3, 1)])
        point = bare(STEP, 3, (0, 1))
        into = (empty(3, 1, 0), plain(3, 1))
        self.assertEqual(rest_web(point, web, into), (bare(STEP, 3, (1, 0)), (plain(3, 1), empty(3, 0, 1))))
        self.assertEqual(image_web(point, web, into), (point, into))

    def test_errors(self):
        web, other = bare(STEP, 3, (1, 1)), bare(PAIR, 3, (1, 1))
        same = (plain(3, 1), plain(3, 1))
        for work in (kernel_web, image_web, rest_web):
            for mapping in (None, list(same), same[:1], (plain(3, 2), plain(3, 1))):
                with self.assertRaises(BadMaps):
                    work(web, web, mapping)
            with self.assertRaises(OtherNet):
                work(web, other, None)
        bent = Web(STEP, 3, (1, 1), [plain(3, 1)])
        for work in (kernel_web, image_web, rest_web):
            with self.assertRaises(BadMaps):
                work(web, bent, same)
        for work in (maps, count_maps, lambda a, b: is_map(a, b, 1), lambda a, b: is_alike(a, b, 1),
                     lambda a, b: kernel_web(a, b, 1), lambda a, b: image_web(a, b, 1), lambda a, b: rest_web(a, b, 1)):
            for one, two in ((None, web), (web, None), (3, other), (web, same), (STEP, STEP)):
                with self.assertRaises(BadWeb) as caught:
                    work(one, two)
                self.assertIsNone(caught.exception.part)
            for two in (other, bare(STEP, 5, (1, 1)), bare(Net(2, [(1, 0)]), 3, (1, 1))):
                with self.assertRaises(OtherNet):
                    work(web, two)


if __name__ == "__main__":
    unittest.main()
