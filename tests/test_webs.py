"""Point [30]: webs."""

import unittest

from boughwebs.errors import BadMaps, BadWeb, OtherNet
from boughwebs.maps import is_alike, is_map
from boughwebs.nets import Net, turned_net
from boughwebs.solving import inverse
from boughwebs.tables import Table, across, empty, plain, times
from boughwebs.webs import Web, bare, changed, sum_of, turned_web
from tests.drawn import (NETS, ONE, PAIR, STEP, STRAIGHT, drawn, drawn_sizes, drawn_table, drawn_web, drawn_whole)


def part_told(*given):
    try:
        Web(*given)
    except BadWeb as error:
        return error.part
    return "nothing"


class WebTest(unittest.TestCase):

    def test_attributes(self):
        table = Table(5, 2, 1, [[1], [2]])
        web = Web(STEP, 5, (1, 2), [table])
        self.assertEqual((web.net, web.prime, web.sizes, web.tables), (STEP, 5, (1, 2), (table,)))
        self.assertIs(type(web.sizes), tuple)
        self.assertIs(type(web.tables), tuple)
        self.assertEqual(Web(net=STEP, prime=5, sizes=(1, 2), tables=(table,)), web)

    def test_equal(self):
        web = Web(STEP, 5, (1, 1), [plain(5, 1)])
        self.assertEqual(web, Web(Net(2, ((0, 1),)), 5, (1, 1), (plain(5, 1),)))
        self.assertFalse(web != Web(STEP, 5, (1, 1), [plain(5, 1)]))
        for other in (Web(STEP, 5, (1, 1), [empty(5, 1, 1)]), Web(STEP, 7, (1, 1), [plain(7, 1)]),
                      Web(Net(2, [(1, 0)]), 5, (1, 1), [plain(5, 1)]), plain(5, 1), STEP, None, 1, "web"):
            self.assertFalse(web == other)
        self.assertNotEqual(bare(STEP, 5, (0, 1)), bare(STEP, 5, (0, 2)))

    def test_what_is_handed_in_stays(self):
        tables = [plain(5, 1)]
        web = Web(STEP, 5, (1, 1), tables)
        tables[0] = 3
        self.assertEqual(web.tables, (plain(5, 1),))

    def test_limits(self):
        self.assertEqual(Web(STEP, 2, (60, 0), [empty(2, 0, 60)]).sizes, (60, 0))
        self.assertEqual(Web(ONE, 97, (60,), []).tables, ())
        self.assertEqual(part_told(ONE, 97, (61,), []), "sizes")

    def test_first_wrong_part(self):
        good = (STEP, 5, (1, 2), [Table(5, 2, 1, [[1], [2]])])
        wrong = {
            "net": (None, 3, "net", (2, ((0, 1),)), []),
            "prime": (4, 1, 101, True, None, "5", 5.0),
            "sizes": ((1,), (1, 2, 0), [1, 2], (1, 61), (-1, 2), (True, 2), (1, 2.0), None, 3, "12"),
            "tables": (None, 3, [], [None], [[[1], [2]]], [plain(5, 1)], [empty(5, 1, 2)], [empty(7, 2, 1)],
                       [empty(5, 2, 1)] * 2, empty(5, 2, 1), {0: empty(5, 2, 1)}),
        }
        parts = list(wrong)
        for at, part in enumerate(parts):
            for thing in wrong[part]:
                given = list(good)
                given[at] = thing
                self.assertEqual(part_told(*given), part)
                for later in range(at + 1, 4):
                    given[later] = wrong[parts[later]][0]
                self.assertEqual(part_told(*given), part)

    def test_bare(self):
        web = bare(net=PAIR, prime=3, sizes=(2, 1))
        self.assertEqual(web, Web(PAIR, 3, (2, 1), [empty(3, 1, 2), empty(3, 1, 2)]))
        self.assertEqual(bare(ONE, 3, (0,)), Web(ONE, 3, (0,), []))
        for given, part in (((None, 4, None), "net"), ((PAIR, 4, None), "prime"), ((PAIR, 3, [1, 1]), "sizes"),
                            ((PAIR, 3, (61, 0)), "sizes"), ((PAIR, True, (1, 1)), "prime")):
            with self.assertRaises(BadWeb) as caught:
                bare(*given)
            self.assertEqual(caught.exception.part, part)


class SumTest(unittest.TestCase):

    def test_by_hand(self):
        one = Web(STEP, 5, (1, 2), [Table(5, 2, 1, [[1], [2]])])
        two = Web(STEP, 5, (2, 0), [empty(5, 0, 2)])
        three = Web(STEP, 5, (1, 1), [Table(5, 1, 1, [[3]])])
        both = Web(STEP, 5, (4, 3), [Table(5, 3, 4, [[1, 0, 0, 0], [2, 0, 0, 0], [0, 0, 0, 3]])])
        self.assertEqual(sum_of([one, two, three]), both)
        self.assertEqual(sum_of(webs=(one, two, three)), both)
        self.assertEqual(sum_of([one]), one)

    def test_one_behind_another(self):
        draw = drawn(31)
        for net in NETS:
            one, two, three = [drawn_web(draw, net, 3, drawn_sizes(draw, net, 2)) for _ in range(3)]
            self.assertEqual(sum_of([sum_of([one, two]), three]), sum_of([one, two, three]))
            nothing = bare(net, 3, (0,) * net.places)
            self.assertEqual(sum_of([nothing, one, nothing]), one)

    def test_errors(self):
        web = bare(STEP, 5, (30, 1))
        self.assertEqual(sum_of([web, web]).sizes, (60, 2))
        others = (bare(STEP, 7, (1, 1)), bare(Net(2, [(1, 0)]), 5, (1, 1)), bare(PAIR, 5, (1, 1)))
        for webs in (None, 3, [], (), "ab", web, {}, [None], [web, 3], [web, others[0], None]):
            with self.assertRaises(BadWeb) as caught:
                sum_of(webs)
            self.assertIsNone(caught.exception.part)
        for other in others:
            with self.assertRaises(OtherNet):
                sum_of([web, web, web, other])
        with self.assertRaises(BadWeb) as caught:
            sum_of([web, web, bare(STEP, 5, (1, 0))])
        self.assertEqual(caught.exception.part, "sizes")


class ChangedTest(unittest.TestCase):

    def test_there_and_back(self):
        draw = drawn(32)
        for net in NETS:
            for prime in (2, 3, 97):
                web = drawn_web(draw, net, prime, drawn_sizes(draw, net, 3))
                turn = [drawn_whole(draw, prime, size) for size in web.sizes]
                found = changed(web, turn)
                self.assertEqual(found, changed(web=web, coordinates=tuple(turn)))
                for table, other, (tail, head) in zip(web.tables, found.tables, net.arrows):
                    self.assertEqual(times(other, turn[tail]), times(turn[head], table))
                self.assertTrue(is_alike(web, found, tuple(turn)))
                self.assertEqual(changed(found, [inverse(table) for table in turn]), web)
                self.assertEqual(changed(web, [plain(prime, size) for size in web.sizes]), web)

    def test_coordinates_stay(self):
        web = bare(STEP, 3, (1, 1))
        turn = [plain(3, 1), plain(3, 1)]
        changed(web, turn)
        self.assertEqual(turn, [plain(3, 1), plain(3, 1)])

    def test_errors(self):
        web = bare(STEP, 3, (1, 2))
        one, two = plain(3, 1), plain(3, 2)
        for turn in (None, 3, [], [one], [one, two, two], [two, one], [one, plain(5, 2)], [one, empty(3, 2, 2)],
                     [one, Table(3, 2, 2, [[1, 2], [2, 1]])], [one, None], [one, ((1, 0), (0, 1))],
                     [one, empty(3, 2, 1)],
                     {0: one, 1: two}, "ab"):
            with self.assertRaises(BadMaps):
                changed(web, turn)
        for thing in (None, STEP, 3):
            with self.assertRaises(BadWeb) as caught:
                changed(thing, None)
            self.assertIsNone(caught.exception.part)

    def test_turned(self):
        draw = drawn(33)
        for net in NETS:
            web = drawn_web(draw, net, 5, drawn_sizes(draw, net, 3))
            found = turned_web(web=web)
            self.assertEqual((found.net, found.prime, found.sizes), (turned_net(net), 5, web.sizes))
            self.assertEqual(found.tables, tuple(across(table) for table in web.tables))
            self.assertEqual(turned_web(found), web)
        with self.assertRaises(BadWeb) as caught:
            turned_web(STRAIGHT)
        self.assertIsNone(caught.exception.part)

    def test_drawn_table_of_the_tests(self):
        self.assertTrue(is_map(bare(ONE, 3, (2,)), bare(ONE, 3, (3,)), (drawn_table(drawn(1), 3, 3, 2),)))


if __name__ == "__main__":
    unittest.main()
