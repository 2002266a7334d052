"""Point [135]: doubles of tables, five lines that tell them, and webs of every net hidden in doubles."""

import unittest

from boughwebs.fivelines import double_of, five_net, five_of, hidden, hidden_map, is_double_map, shown_map
from boughwebs.maps import behind, count_maps, is_map, maps
from boughwebs.nets import Net
from boughwebs.tables import Table, corner, empty, over, plain, plus, scaled, times
from boughwebs.webs import Web, bare, changed, turned_web
from tests.drawn import (CLASH, FIVE, NETS, ONE, PAIR, RING, STEP, STRAIGHT, all_tables, check_order, drawn, drawn_map,
                         drawn_sizes, drawn_table, drawn_web, error_of, of_other_kinds, turned_about,
                         with_number, with_one_otherwise)

FIVES = five_net()
DOUBLE = (plain(3, 2), empty(3, 2, 2))
NO_DOUBLES = [None, 3, plain(3, 2), [plain(3, 2), plain(3, 2)], (plain(3, 2),), (plain(3, 2),) * 3, (), "double",
              (plain(3, 2), plain(3, 1)), (plain(3, 2), plain(5, 2)), (empty(3, 1, 2), empty(3, 1, 2)),
              (empty(3, 2, 1), empty(3, 2, 1)), (plain(3, 31), plain(3, 31)), (plain(3, 1), None), (None, plain(3, 1))]


def drawn_double(draw, prime, size):
    return (drawn_table(draw, prime, size, size), drawn_table(draw, prime, size, size))


def is_double_map_plainly(one, other, table):
    return all(times(table, first) == times(second, table) for first, second in zip(one, other))


def small_webs(seed, many=3):
    """Pairs of webs of one net and prime that can be hidden."""
    draw = drawn(seed)
    for net in (ONE, STEP, STRAIGHT, CLASH, PAIR, RING):
        for _ in range(many):
            prime = draw.choice((2, 3, 97))
            blocks = net.places + 1 + len(net.arrows)
            webs = []
            while len(webs) < 2:
                sizes = drawn_sizes(draw, net, 2)
                if blocks * sum(sizes) <= 30:
                    webs.append(drawn_web(draw, net, prime, sizes))
            yield webs


class DoubleTest(unittest.TestCase):

    def test_net(self):
        self.assertEqual(five_net(), Net(6, ((0, 5), (1, 5), (2, 5), (3, 5), (4, 5))))

    def test_is_double_map(self):
        draw = drawn(1351)
        for prime in (2, 3):
            for a, b in ((1, 1), (1, 2), (2, 1), (2, 2), (0, 1), (0, 0)):
                one, other = drawn_double(draw, prime, a), drawn_double(draw, prime, b)
                if draw.random() < 0.5 and a == b:
                    other = one
                for table in all_tables(prime, b, a):
                    self.assertIs(is_double_map(one=one, other=other, thing=table),
                                  is_double_map_plainly(one, other, table))
        unit = plain(3, 2)
        self.assertIs(is_double_map(DOUBLE, DOUBLE, unit), True)
        for thing in list(of_other_kinds(unit)) + [(unit,), unit.lines, plain(3, 3), plain(5, 2), empty(3, 1, 2)]:
            self.assertIs(is_double_map(DOUBLE, DOUBLE, thing), False)

    def test_wrong_doubles(self):
        for wrong in NO_DOUBLES:
            check_order(self, is_double_map, {"one": DOUBLE, "other": DOUBLE, "thing": None}, [
                ("one", wrong, ("BadDouble",)), ("other", wrong, ("BadDouble",))])
            self.assertEqual(error_of(five_of, wrong), ("BadDouble",))
        self.assertEqual(error_of(is_double_map, DOUBLE, (plain(5, 2), plain(5, 2)), None), ("BadDouble",))
        great = (plain(2, 30), plain(2, 30))
        self.assertIs(is_double_map(great, great, plain(2, 30)), True)
        self.assertEqual(five_of(great).sizes, (30,) * 5 + (60,))

    def test_five_of(self):
        draw = drawn(1352)
        for prime in (2, 3, 97):
            for size in range(4):
                double = drawn_double(draw, prime, size)
                unit, none = plain(prime, size), empty(prime, size, size)
                told = [over(some) for some in ((unit, none), (none, unit), (unit, unit), (unit, double[0]),
                                                (unit, double[1]))]
                self.assertEqual(five_of(double=double), Web(FIVES, prime, (size,) * 5 + (2 * size,), told))

    def test_maps_are_those_of_doubles(self):
        draw = drawn(1353)
        for prime in (2, 3):
            for a, b in ((1, 1), (1, 2), (2, 2), (2, 1)):
                one, other = drawn_double(draw, prime, a), drawn_double(draw, prime, b)
                told = [table for table in all_tables(prime, b, a) if is_double_map(one, other, table)]
                webs = five_of(one), five_of(other)
                self.assertEqual(prime ** count_maps(*webs), len(told))
                for table in told:
                    self.assertTrue(is_map(*webs, (table,) * 5 + (corner([table, table]),)))


class DoubleOfTest(unittest.TestCase):

    def judged(self, web):
        found = double_of(web=web)
        self.assertIs(type(found), tuple)
        double, coordinates = found
        self.assertIs(type(coordinates), list)
        self.assertEqual(changed(web, coordinates), five_of(double))
        self.assertEqual(double_of(web), found)

    def test_drawn_coordinates(self):
        draw = drawn(1354)
        for prime in (2, 3, 97):
            for size in range(5):
                for _ in range(8):
                    web = turned_about(draw, five_of(drawn_double(draw, prime, size)))
                    self.judged(web)
        self.judged(five_of((plain(2, 30), plain(2, 30))))

    def test_all_small_webs(self):
        # Five lines in a plane: two apart, and three more that are neither of... the first two, nor the second.
        prime = 3
        columns = [(a, b) for a in range(prime) for b in range(prime)]
        draw = drawn(1355)
        for _ in range(400):
            told = [draw.choice(columns) for _ in range(5)]
            web = Web(FIVES, prime, (1,) * 5 + (2,), [Table(prime, 2, 1, [[a], [b]]) for a, b in told])

            def cross(k, j):
                return (told[k][0] * told[j][1] - told[k][1] * told[j][0]) % prime
            if cross(0, 1) and cross(0, 2) and cross(1, 2) and cross(1, 3) and cross(1, 4):
                self.judged(web)
            else:
                self.assertEqual(error_of(double_of, web), ("NotSo",))

    def test_not_so(self):
        for wrong in (None, 3, FIVES, DOUBLE, "web"):
            self.assertEqual(error_of(double_of, wrong), ("BadWeb", None))
        web = five_of(DOUBLE)
        for other in (bare(FIVES, 3, (1,) * 5 + (2,)), bare(FIVES, 3, (1,) * 5 + (1,)), bare(FIVE, 3, (1,) * 5),
                      bare(FIVES, 3, (1, 1, 1, 1, 2, 2)), bare(FIVES, 3, (0, 1, 0, 0, 0, 0)), turned_web(web),
                      bare(FIVES, 3, (31,) * 5 + (60,)), bare(STEP, 3, (1, 2))):
            self.assertEqual(error_of(double_of, other), ("NotSo",))
        self.judged(bare(FIVES, 5, (0,) * 6))
        draw = drawn(1356)
        for at in range(5):
            tables = list(web.tables)
            tables[at] = times(tables[at], Table(3, 2, 2, [[1, 0], [0, 0]]))
            self.assertEqual(error_of(double_of, turned_about(draw, Web(FIVES, 3, web.sizes, tables))), ("NotSo",))


def block(table, size, at, k):
    return [line[k * size:(k + 1) * size] for line in table.lines[at * size:(at + 1) * size]]


class HiddenTest(unittest.TestCase):

    def test_by_the_definition(self):
        for web, _ in small_webs(1357):
            net, prime, size = web.net, web.prime, sum(web.sizes)
            ahead = [sum(web.sizes[:place]) for place in range(net.places)]
            told = []
            for place in range(net.places - 1):
                told.append([[int(i == j and ahead[place] <= i < ahead[place + 1]) for j in range(size)]
                             for i in range(size)])
            for table, (tail, head) in zip(web.tables, net.arrows):
                lines = [[0] * size for _ in range(size)]
                for i in range(table.tall):
                    for j in range(table.wide):
                        lines[ahead[head] + i][ahead[tail] + j] = table.lines[i][j]
                told.append(lines)
            x, y = hidden(web=web)
            many = len(told) + 2
            unit = [[int(i == j) for j in range(size)] for i in range(size)]
            none = [[0] * size for _ in range(size)]
            for table in (x, y):
                self.assertEqual((table.prime, table.tall, table.wide), (prime, many * size, many * size))
            for i in range(many):
                for j in range(many):
                    self.assertEqual(list(map(list, block(x, size, i, j))), unit if j == i + 1 else none)
                    goal = unit if i == j + 1 else told[j] if i == j + 2 else none
                    self.assertEqual(list(map(list, block(y, size, i, j))), goal)

    def test_bounds(self):
        for net, sizes, fine in ((ONE, (15,), True), (ONE, (16,), False), (STEP, (7, 0), True), (STEP, (4, 4), False),
                                 (PAIR, (3, 3), True), (PAIR, (3, 4), False), (RING, (2, 1, 1), True),
                                 (RING, (2, 2, 1), False), (STEP, (0, 0), True), (ONE, (60,), False)):
            web = bare(net, 2, sizes)
            if fine:
                self.assertEqual(hidden(web)[0].tall, (net.places + 1 + len(net.arrows)) * sum(sizes))
            else:
                self.assertEqual(error_of(hidden, web), ("BadWeb", "sizes"))
        for net in NETS:
            self.assertIsNone(error_of(hidden, bare(net, 2, (0,) * net.places)))
        self.assertEqual(error_of(hidden, None), ("BadWeb", None))

    def test_maps_there_and_back(self):
        draw = drawn(1358)
        for one, other in small_webs(1359):
            webs = five_of(hidden(one)), five_of(hidden(other))
            if sum(a * b for a, b in zip(webs[0].sizes, webs[1].sizes)) <= 300:
                self.assertEqual(count_maps(*webs), count_maps(one, other))
                for mapping in maps(*webs):
                    shown = shown_map(one, other, mapping)
                    self.assertTrue(is_map(one, other, shown))
                    self.assertEqual(hidden_map(one, other, shown), mapping)
            for _ in range(3):
                mapping = drawn_map(draw, one, other)
                found = hidden_map(one=one, other=other, mapping=mapping)
                many = one.net.places + 1 + len(one.net.arrows)
                table = corner([corner(mapping)] * many)
                self.assertEqual(found, (table,) * 5 + (corner([table, table]),))
                self.assertTrue(is_map(*webs, found))
                self.assertEqual(shown_map(one=one, other=other, thing=found), mapping)
            again = drawn_map(draw, other, other)
            self.assertEqual(behind(hidden_map(one, other, mapping), hidden_map(other, other, again)),
                             hidden_map(one, other, behind(mapping, again)))

    def test_with_one_number_otherwise(self):
        draw = drawn(1360)
        for one, other in small_webs(1361, 1):
            found = hidden_map(one, other, drawn_map(draw, one, other))
            some = list(with_one_otherwise(found))
            for bent in draw.sample(some, min(40, len(some))):
                self.assertEqual(error_of(shown_map, one, other, bent), ("BadMaps",))
            for thing in (None, list(found), found[:5], found + found[:1], found[0], "map"):
                self.assertEqual(error_of(shown_map, one, other, thing), ("BadMaps",))

    def test_errors_in_their_order(self):
        web, unit = Web(STEP, 3, (1, 1), [plain(3, 1)]), (plain(3, 1), plain(3, 1))
        great = bare(STEP, 3, (4, 4))
        told = hidden_map(web, web, unit)
        for work, name, good in ((hidden_map, "mapping", unit), (shown_map, "thing", told)):
            for wrong in (None, list(good), good[:1], (with_number(good[0]),) + good[1:], (plain(3, 1),)):
                check_order(self, work, {"one": web, "other": web, name: good}, [
                    ("one", None, ("BadWeb", None)), ("other", STEP, ("BadWeb", None)),
                    ("other", bare(PAIR, 3, (1, 1)), ("OtherNet",)), (name, wrong, ("BadMaps",))])
                for key in ("one", "other"):
                    told = {"one": web, "other": web, name: wrong}
                    told[key] = great
                    self.assertEqual(error_of(work, **told), ("BadWeb", "sizes"))
        self.assertEqual(error_of(hidden_map, great, bare(PAIR, 3, (1, 1)), None), ("OtherNet",))
        self.assertEqual(shown_map(web, web, tuple(plus(table, table) for table in hidden_map(web, web, unit))),
                         tuple(scaled(table, 2) for table in unit))


if __name__ == "__main__":
    unittest.main()
