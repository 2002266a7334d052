"""Point [150]: wholes, their sums and coordinates, determinants."""

import unittest
from itertools import permutations

from boughwebs.tables import Table
from boughwebs.webs import Web, changed, sum_of
from boughwebs.wholes import Whole, changed_whole, modulo, sum_of_wholes
from boughwebs.wholetables import determinant
from tests.drawn import (ARMS_SIX, CLASH, GOOD, NETS, ONE, PAIR, STAR, STEP, check_order, drawn, drawn_sizes,
                         error_of, of_other_kinds)
from tests.test_polys import WRONG_PRIMES

BOUND = 10 ** 9
SIX = Whole(STEP, (1, 1), [[[6]]])
NO_WHOLES = [None, 3, STEP, Web(STEP, 2, (1, 1), [Table(2, 1, 1, [[1]])]), (), "whole", [SIX], {}]


def drawn_lines(draw, tall, wide, most):
    return [[draw.randrange(-most, most + 1) for _ in range(wide)] for _ in range(tall)]


def drawn_numbers(draw, net, sizes, most=3):
    """A Whole of these sizes with numbers from -most to most."""
    return Whole(net, sizes, [drawn_lines(draw, sizes[head], sizes[tail], most) for tail, head in net.arrows])


def drawn_turn(draw, size, many=4):
    """A square table of whole numbers with determinant 1 or -1: lines added to one another, exchanged, negated."""
    lines = [[int(i == j) for j in range(size)] for i in range(size)]
    for _ in range(many if size else 0):
        i, j, many = draw.randrange(size), draw.randrange(size), draw.choice((-1, 1))
        if i != j:
            lines[i] = [a + many * b for a, b in zip(lines[i], lines[j])]
        else:
            lines[i] = [-a for a in lines[i]]
            lines[0], lines[i] = lines[i], lines[0]
    return lines


def plain_determinant(lines):
    found = 0
    for order in permutations(range(len(lines))):
        product = 1
        for at, k in enumerate(order):
            product *= lines[at][k] * (-1) ** len([j for j in order[:at] if j > k])
        found += product
    return found


def plain_product(one, two, wide):
    return [[sum(a * two[k][j] for k, a in enumerate(line)) for j in range(wide)] for line in one]


class WholeTest(unittest.TestCase):

    def test_attributes(self):
        draw = drawn(1501)
        for net in NETS:
            sizes = drawn_sizes(draw, net, 3)
            tables = [drawn_lines(draw, sizes[head], sizes[tail], BOUND) for tail, head in net.arrows]
            whole = Whole(net=net, sizes=sizes, tables=tables)
            told = tuple(tuple(map(tuple, table)) for table in tables)
            self.assertEqual((whole.net, whole.sizes, whole.tables), (net, sizes, told))
            self.assertEqual(whole, Whole(net, sizes, told))
            if tables and tables[0] and tables[0][0]:
                tables[0][0][0] += 1
                self.assertEqual(whole.tables, told)
            self.assertEqual(Whole(net, (0,) * net.places, [[]] * len(net.arrows)).sizes, (0,) * net.places)
        with self.assertRaises(TypeError):
            iter(SIX)

    def test_equal(self):
        self.assertEqual(SIX, Whole(STEP, (1, 1), (((6,),),)))
        for other in (Whole(STEP, (1, 1), [[[5]]]), Whole(STEP, (1, 2), [[[6], [6]]]), Whole(CLASH, (1, 1, 0), [[[6]], [[]]])):
            self.assertNotEqual(SIX, other)
        for thing in NO_WHOLES:
            self.assertFalse(SIX == thing)
            self.assertFalse(thing == SIX)

    def test_the_first_part_that_is_wrong(self):
        for net in (None, 3, "net", (2, ((0, 1),))):
            for sizes in (None, (1,), (1, 1, 1), [1, 1], (13, 0), (1, -1), (True, 1), (1, 1.0)):
                for tables in (None, [], [[[6]], [[6]]], [[6]], [[[6.0]]], [[[True]]], [[[BOUND + 1]]], [[[-BOUND - 1]]],
                               [[[6, 6]]], [[[6], [6]]], [[]], [[[]]], [[["6"]]], {}, [{}], [[{}]], "a", [None]):
                    check_order(self, Whole, {"net": STEP, "sizes": (1, 1), "tables": [[[6]]]}, [
                        ("net", net, ("BadWhole", "net")), ("sizes", sizes, ("BadWhole", "sizes")),
                        ("tables", tables, ("BadWhole", "tables"))])

    def test_bounds(self):
        for number in (BOUND, -BOUND, 0):
            self.assertEqual(Whole(STEP, (1, 1), [[[number]]]).tables, (((number,),),))
        for net, sizes, fine in ((STEP, (12, 12), True), (ARMS_SIX, (12, 12, 6, 0, 0, 0), True), (STEP, (13, 0), False),
                                 (ARMS_SIX, (12, 12, 6, 1, 0, 0), False), (ARMS_SIX, (5,) * 6, True)):
            tables = [[[0] * sizes[tail]] * sizes[head] for tail, head in net.arrows]
            self.assertEqual(error_of(Whole, net, sizes, tables), None if fine else ("BadWhole", "sizes"))
        self.assertEqual(Whole(STEP, (0, 3), [[[], [], []]]).tables, (((), (), ()),))
        self.assertEqual(error_of(Whole, STEP, (0, 3), [[]]), ("BadWhole", "tables"))
        self.assertEqual(Whole(STEP, (3, 0), [[]]).tables, ((),))

    def test_modulo(self):
        draw = drawn(1502)
        for net in NETS:
            whole = drawn_numbers(draw, net, drawn_sizes(draw, net, 3), BOUND)
            for prime in (2, 3, 97):
                web = modulo(whole=whole, prime=prime)
                self.assertEqual((web.net, web.prime, web.sizes), (net, prime, whole.sizes))
                told = tuple(tuple(tuple(number % prime for number in line) for line in table) for table in whole.tables)
                self.assertEqual(tuple(table.lines for table in web.tables), told)
        for wrong in NO_WHOLES:
            for prime in list(WRONG_PRIMES) + [101]:
                check_order(self, modulo, {"whole": SIX, "prime": 3}, [
                    ("whole", wrong, ("BadWhole", None)), ("prime", prime, ("BadPrime",))])


class SumTest(unittest.TestCase):

    def test_sums(self):
        draw = drawn(1503)
        for net in NETS:
            for _ in range(5):
                some = [drawn_numbers(draw, net, drawn_sizes(draw, net, 1)) for _ in range(draw.randrange(1, 4))]
                found = sum_of_wholes(wholes=some)
                self.assertEqual(sum_of_wholes(tuple(some)), found)
                # Numbers from -3 to 3 can be told modulo 7.
                self.assertEqual(modulo(found, 7), sum_of([modulo(whole, 7) for whole in some]))
                self.assertTrue(all(abs(number) <= 3 for table in found.tables for line in table for number in line))
        self.assertEqual(sum_of_wholes([SIX, SIX]).tables, (((6, 0), (0, 6)),))

    def test_errors_in_their_order(self):
        other = Whole(PAIR, (1, 1), [[[1]], [[1]]])
        for wrong in (None, [], (), 3, SIX, {}, "wholes", [None], [SIX, None], [SIX, other, STEP], [None, other]):
            self.assertEqual(error_of(sum_of_wholes, wrong), ("BadWhole", None))
        great = Whole(STEP, (12, 12), [[[0] * 12] * 12])
        self.assertEqual(error_of(sum_of_wholes, [great, other]), ("OtherNet",))
        self.assertEqual(error_of(sum_of_wholes, [great, SIX]), ("BadWhole", "sizes"))
        half = Whole(STAR, (4, 4, 4, 4), [[[0] * 4] * 4] * 3)
        self.assertEqual(error_of(sum_of_wholes, [half, half]), ("BadWhole", "sizes"))
        less = Whole(STAR, (4, 4, 4, 2), [[[0] * 4] * 2] * 3)
        self.assertEqual(sum_of_wholes([half, less]).sizes, (8, 8, 8, 6))
        self.assertEqual(sum_of_wholes([Whole(ONE, (12,), [])]).sizes, (12,))
        self.assertEqual(error_of(sum_of_wholes, [Whole(ONE, (12,), []), Whole(ONE, (1,), [])]), ("BadWhole", "sizes"))


class DeterminantTest(unittest.TestCase):

    def test_any_lines(self):
        draw = drawn(1504)
        for size in range(6):
            for _ in range(60):
                most = draw.choice((1, 3, BOUND, 10 ** 30))
                lines = [[draw.choice((0, 0, 1, -1, draw.randrange(-most, most + 1))) for _ in range(size)]
                         for _ in range(size)]
                if size > 2 and draw.random() < 0.3:
                    lines[0] = [2 * a - b for a, b in zip(lines[1], lines[2])]
                self.assertEqual(determinant(lines=lines), plain_determinant(lines))
                self.assertEqual(determinant(tuple(map(tuple, lines))), plain_determinant(lines))
        self.assertEqual((determinant([]), determinant(()), determinant([[-7]])), (1, 1, -7))
        for _ in range(20):
            turn = drawn_turn(draw, 12, 40)
            self.assertIn(determinant(turn), (1, -1))
            self.assertEqual(determinant(turn[1:] + turn[:1]), -determinant(turn))

    def test_wrong_lines(self):
        for wrong in (None, 3, "", {}, [1], [[1, 2]], [[1], [2]], [[1, 2], [3]], [[True]], [[1.0]], [["1"]], [None], [{}],
                      [[0] * 13] * 13, [[1, 2], [3, None]], ["1"], [[]]):
            self.assertEqual(error_of(determinant, wrong), ("BadTable",))


class ChangedTest(unittest.TestCase):

    def test_changed_there_and_back(self):
        draw = drawn(1505)
        for net in NETS:
            for _ in range(6):
                whole = drawn_numbers(draw, net, drawn_sizes(draw, net, 3))
                turn = [drawn_turn(draw, size) for size in whole.sizes]
                found = changed_whole(whole=whole, coordinates=turn)
                self.assertEqual(changed_whole(whole, tuple(tuple(map(tuple, some)) for some in turn)), found)
                self.assertEqual((found.net, found.sizes), (net, whole.sizes))
                for at, (tail, head) in enumerate(net.arrows):
                    wide = whole.sizes[tail]
                    self.assertEqual(plain_product(found.tables[at], turn[tail], wide),
                                     plain_product(turn[head], whole.tables[at], wide))
                for prime in (2, 97):
                    tables = [Table(prime, size, size, some) for size, some in zip(whole.sizes, turn)]
                    self.assertEqual(modulo(found, prime), changed(modulo(whole, prime), tables))

    def test_determinants(self):
        self.assertEqual(changed_whole(SIX, [[[-1]], [[1]]]).tables, (((-6,),),))
        for lines, fine in (([[2]], False), ([[0]], False), ([[-1]], True), ([[1]], True), ([[3]], False)):
            self.assertEqual(error_of(changed_whole, SIX, [lines, [[1]]]), None if fine else ("BadMaps",))
        whole = Whole(STEP, (2, 1), [[[1, 2]]])
        for lines, fine in (([[2, 1], [1, 1]], True), ([[1, 1], [1, 1]], False), ([[0, 1], [1, 0]], True),
                            ([[3, 1], [1, 1]], False), ([[BOUND, 1], [BOUND, 1]], False)):
            self.assertEqual(error_of(changed_whole, whole, [lines, [[1]]]), None if fine else ("BadMaps",))

    def test_numbers_beyond_the_bound(self):
        whole = Whole(STEP, (1, 2), [[[BOUND], [0]]])
        self.assertEqual(changed_whole(whole, [[[1]], [[1, 0], [-1, 1]]]).tables, (((BOUND,), (-BOUND,)),))
        self.assertEqual(error_of(changed_whole, whole, [[[1]], [[1, 0], [2, 1]]]), ("BadWhole", "tables"))
        self.assertEqual(error_of(changed_whole, whole, [[[1]], [[1, 0], [-2, 1]]]), ("BadWhole", "tables"))
        other = Whole(STEP, (1, 2), [[[BOUND], [1]]])
        self.assertEqual(error_of(changed_whole, other, [[[1]], [[1, 1], [0, 1]]]), ("BadWhole", "tables"))
        self.assertEqual(changed_whole(other, [[[1]], [[1, -1], [0, 1]]]).tables, (((BOUND - 1,), (1,)),))

    def test_errors_in_their_order(self):
        good = [[[1]], [[-1]]]
        for wrong in NO_WHOLES:
            for turn in (None, [], good[:1], good + good, [[[1]], [[1, 0], [0, 1]]], [[[1]], [[True]]], [[[1]], None],
                         [[1], [1]], {}, [[[1]], [[BOUND + 1]]], [[[1]], [[]]], [[[1]], []]):
                check_order(self, changed_whole, {"whole": SIX, "coordinates": good}, [
                    ("whole", wrong, ("BadWhole", None)), ("coordinates", turn, ("BadMaps",))])
        # Numbers of coordinates have the bound of whole tables, too.
        whole = Whole(STEP, (0, 2), [[[], []]])
        self.assertIsNone(error_of(changed_whole, whole, [[], [[1, BOUND], [0, 1]]]))
        self.assertEqual(error_of(changed_whole, whole, [[], [[1, BOUND + 1], [0, 1]]]), ("BadMaps",))
        for net in GOOD:
            empty = Whole(net, (0,) * net.places, [[]] * len(net.arrows))
            self.assertEqual(changed_whole(empty, [[]] * net.places), empty)
        for thing in of_other_kinds(((1,),), (0, 1)):
            self.assertEqual(error_of(changed_whole, SIX, [thing, [[1]]]), ("BadMaps",) if thing != [[1]] else None)


if __name__ == "__main__":
    unittest.main()
