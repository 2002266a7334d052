"""Point [152]: the kinds of a whole at all primes."""

import unittest
from itertools import product
from math import gcd, lcm

from boughwebs.bends import bends
from boughwebs.countings import kind_tally
from boughwebs.divisors import greatest_divisor
from boughwebs.evenwholes import even_whole, least_whole
from boughwebs.kinds import kinds_of, sum_kind
from boughwebs.roots import roots
from boughwebs.splits import kind_of
from boughwebs.tables import PRIMES
from boughwebs.tallies import tally_at
from boughwebs.wholekinds import bad_number, bad_primes, great_prime, hurdle, kind_at, kind_of_whole
from boughwebs.wholes import Whole, changed_whole, modulo, sum_of_wholes
from tests.drawn import (ARMS_SIX, CLASH, FIVE, GOOD, ONE, PAIR, RING, STAR, STEP, STRAIGHT, arms_net, check_order,
                         drawn, drawn_kind, drawn_sizes, error_of, good_nets)
from tests.test_wholes import NO_WHOLES, SIX, drawn_numbers, drawn_turn, plain_determinant

NOT_PRIMES = [None, 0, 1, -2, 4, 9, 91, 999, 10 ** 6, 999999, 10 ** 6 + 3, True, 2.0, "2", (2,), 997 * 997, -7]


def drawn_wholes(seed, many=6, nets=GOOD):
    draw = drawn(seed)
    for net in nets:
        for _ in range(many):
            sizes = drawn_sizes(draw, net, 3 if net.places < 5 else 2)
            yield draw, drawn_numbers(draw, net, sizes, draw.choice((1, 3, 9, 100)))


def equations_plainly(least, whole):
    """The lines of the table that leads the numbers of x to those of the tables along that x makes."""
    spots = [(place, i, j) for place in range(whole.net.places) for i in range(whole.sizes[place])
             for j in range(least.sizes[place])]
    lines = []
    for at, (tail, head) in enumerate(whole.net.arrows):
        for i in range(whole.sizes[head]):
            for j in range(least.sizes[tail]):
                line = []
                for place, a, b in spots:
                    number = whole.tables[at][i][a] if place == tail and b == j else 0
                    line.append(number - (least.tables[at][b][j] if place == head and a == i else 0))
                lines.append(line)
    return lines


def divisor_plainly(lines):
    """The greatest divisor, by the determinants of all lines and columns."""
    wide = len(lines[0]) if lines else 0
    last, found = 1, 1
    for many in range(1, min(len(lines), wide) + 1):
        common = 0
        for some in choices(range(len(lines)), many):
            for columns in choices(range(wide), many):
                common = gcd(common, plain_determinant([[lines[k][j] for j in columns] for k in some]))
        if common == 0:
            return found
        last, found = common, common // last
    return found


def choices(numbers, many):
    if many == 0:
        return [()]
    return [(first,) + rest for at, first in enumerate(numbers) for rest in choices(numbers[at + 1:], many - 1)]


class KindAtTest(unittest.TestCase):

    def test_small_primes(self):
        for draw, whole in drawn_wholes(1521):
            for prime in PRIMES:
                self.assertEqual(kind_at(whole=whole, prime=prime), kind_of(modulo(whole, prime)))

    def test_great_primes(self):
        for prime in (101, 997, 1009, 65537, 999983):
            for number, told in ((prime, {(0, 1): 1, (1, 0): 1}), (prime + 1, {(1, 1): 1}), (-3 * prime, None),
                                 (2, {(1, 1): 1}), (0, {(0, 1): 1, (1, 0): 1})):
                whole = Whole(STEP, (1, 1), [[[number]]])
                self.assertEqual(kind_at(whole, prime), told or {(0, 1): 1, (1, 0): 1})
            whole = Whole(STEP, (2, 2), [[[1, 2], [3, 6 + prime]]])
            self.assertEqual(kind_at(whole, prime), {(0, 1): 1, (1, 0): 1, (1, 1): 1})
            self.assertEqual(kind_at(whole, 2), kind_of(modulo(whole, 2)))

    def test_errors_in_their_order(self):
        other = Whole(PAIR, (1, 1), [[[1]], [[1]]])
        for wrong in NO_WHOLES:
            for prime in NOT_PRIMES:
                check_order(self, kind_at, {"whole": SIX, "prime": 5}, [
                    ("whole", wrong, ("BadWhole", None)), ("whole", other, ("NotGood",)),
                    ("prime", prime, ("BadPrime",))])
            for root in (None, (0, 0), (2, 1), [1, 1], (1,)):
                check_order(self, hurdle, {"whole": SIX, "root": (1, 1)}, [
                    ("whole", wrong, ("BadWhole", None)), ("whole", other, ("NotGood",)), ("root", root, ("BadRow",))])
            for work in (kind_of_whole, bad_number, bad_primes):
                check_order(self, work, {"whole": SIX}, [
                    ("whole", wrong, ("BadWhole", None)), ("whole", other, ("NotGood",))])
        for net in (RING, FIVE):
            self.assertEqual(error_of(kind_of_whole, Whole(net, (0,) * net.places, [[]] * len(net.arrows))), ("NotGood",))


class DivisorTest(unittest.TestCase):

    def test_by_determinants(self):
        draw = drawn(1522)
        for _ in range(1500):
            tall, wide = draw.randrange(5), draw.randrange(1, 5)
            some = draw.choice([(0, 1, -1, 2, 3), (0, 2, 4, 6, 12, -30), (0, 2, 3, 4, 5, 6, 60), (0, 0, 6, 4)])
            lines = [[draw.choice(some) for _ in range(wide)] for _ in range(tall)]
            if tall > 1 and draw.random() < 0.4:
                lines[0] = [2 * a + 3 * b for a, b in zip(lines[1], lines[-1])]
            rows = [{k: number for k, number in enumerate(line) if number} for line in lines]
            self.assertEqual(greatest_divisor(rows), divisor_plainly(lines))

    def test_great_numbers(self):
        draw = drawn(1523)
        for size in (4, 8, 12):
            lines = [[draw.randrange(-10 ** 9, 10 ** 9) for _ in range(size)] for _ in range(size)]
            many = [draw.choice((1, 1, 2, 6, 30)) for _ in range(size)]
            told = [[a * b for a, b in zip(line, many)] for line in lines]
            rows = [{k: number for k, number in enumerate(line)} for line in told]
            found = greatest_divisor(rows)
            # So many times it is undone by whole numbers: it divides the determinant, and its primes are all of it.
            self.assertEqual(abs(plain_determinant(told)) % found if size < 6 else 0, 0)
            for prime in (2, 3, 5):
                if any(number % prime == 0 for number in many):
                    self.assertEqual(found % prime, 0)


class BadNumberTest(unittest.TestCase):

    def test_hurdles_by_the_definition(self):
        draw = drawn(1524)
        for net in (STEP, CLASH, STRAIGHT):
            for _ in range(10):
                whole = drawn_numbers(draw, net, tuple(draw.randrange(3) for _ in range(net.places)), 9)
                for root in roots(net):
                    lines = equations_plainly(least_whole(net, root), whole)
                    if min(len(lines), len(lines[0]) if lines else 0) <= 4 and len(lines) <= 6:
                        self.assertEqual(hurdle(whole=whole, root=root), divisor_plainly(lines))

    def test_every_prime(self):
        for draw, whole in drawn_wholes(1525, 8, GOOD + good_nets(1526, 7)[-3:]):
            net = whole.net
            kind, number = kind_of_whole(whole=whole), bad_number(whole=whole)
            told = 1
            for root in roots(net):
                told = lcm(told, hurdle(whole, root))
            self.assertEqual(number, told)
            self.assertEqual(list(kind), sorted(kind))
            for prime in PRIMES + (101, 997, 999983):
                here = kind_at(whole, prime)
                self.assertEqual(here != kind, number % prime == 0)
                self.assertTrue(bends(net, kind, here))

    def test_bad_primes(self):
        seen = 0
        for draw, whole in drawn_wholes(1527, 6):
            number = bad_number(whole)
            left = number
            for prime in range(2, 1001):
                while left % prime == 0:
                    left //= prime
            if left > 10 ** 6:
                self.assertEqual(error_of(bad_primes, whole), ("TooMany", 10 ** 6))
                continue
            found = bad_primes(whole=whole)
            self.assertIs(type(found), list)
            primes = [prime for prime in range(2, 1001) if number % prime == 0
                      and all(prime % part for part in range(2, prime))] + [left] * (left > 1)
            self.assertEqual(found, [(prime, kind_at(whole, prime)) for prime in primes])
            seen += len(found)
        self.assertGreater(seen, 15)

    def test_what_is_left_without_small_primes(self):
        for number, told in ((999983, [999983]), (999983 * 4 * 97, [2, 97, 999983]), (1009, [1009]), (1, []), (0, []),
                             (997 ** 3, [997]), (6, [2, 3]), (-8, [2]), (1000, [2, 5])):
            whole = Whole(STEP, (1, 1), [[[number]]])
            self.assertEqual([prime for prime, _ in bad_primes(whole)], told)
        for number in (1000003, 1009 * 1013, 2 * 1000003, 997 * 1000003):
            self.assertEqual(error_of(bad_primes, Whole(STEP, (1, 1), [[[number]]])), ("TooMany", 10 ** 6))
            self.assertEqual(bad_number(Whole(STEP, (1, 1), [[[number]]])), number)

    def test_coordinates_change_nothing(self):
        for draw, whole in drawn_wholes(1528, 4):
            turned = changed_whole(whole, [drawn_turn(draw, size) for size in whole.sizes])
            self.assertEqual(kind_of_whole(turned), kind_of_whole(whole))
            self.assertEqual(bad_number(turned), bad_number(whole))
            for root in draw.sample(roots(whole.net), min(4, len(roots(whole.net)))):
                self.assertEqual(hurdle(turned, root), hurdle(whole, root))
            self.assertEqual(kind_at(turned, 2), kind_at(whole, 2))

    def test_sums(self):
        draw = drawn(1529)
        for net in GOOD:
            for _ in range(4):
                some = [drawn_numbers(draw, net, drawn_sizes(draw, net, 1), 9) for _ in range(2)]
                both = sum_of_wholes(some)
                self.assertEqual(kind_of_whole(both), sum_kind(net, [kind_of_whole(whole) for whole in some]))
                self.assertEqual(bad_number(both), lcm(*[bad_number(whole) for whole in some]))
                for root in roots(net)[::5]:
                    self.assertEqual(hurdle(both, root), lcm(*[hurdle(whole, root) for whole in some]))
                for prime in (2, 3):
                    told = [kind_at(whole, prime) for whole in some]
                    self.assertEqual(kind_at(both, prime), sum_kind(net, told))

    def test_even_wholes(self):
        draw = drawn(1530)
        for net in GOOD:
            for _ in range(4):
                kind = drawn_kind(draw, net, 2, 2)
                if sum(sum(root) * many for root, many in kind.items()) <= 12:
                    whole = even_whole(net, kind)
                    self.assertEqual((kind_of_whole(whole), bad_number(whole), bad_primes(whole)), (kind, 1, []))

    def test_so_many_of_each_kind(self):
        for prime, net, row in ((2, STEP, (2, 2)), (3, STEP, (2, 1)), (2, CLASH, (1, 2, 1)), (2, STAR, (1, 1, 1, 2))):
            seen = {}
            numbers = sum(row[tail] * row[head] for tail, head in net.arrows)
            for told in product(range(prime), repeat=numbers):
                tables, ahead = [], 0
                for tail, head in net.arrows:
                    tables.append([told[ahead + k * row[tail]:ahead + (k + 1) * row[tail]] for k in range(row[head])])
                    ahead += row[tail] * row[head]
                key = tuple(kind_at(Whole(net, row, tables), prime).items())
                seen[key] = seen.get(key, 0) + 1
            for kind in kinds_of(net, row):
                self.assertEqual(seen[tuple(kind.items())], tally_at(kind_tally(net, kind), prime))

    def test_great_numbers(self):
        draw = drawn(1531)
        bound = 10 ** 9
        for net, sizes in ((STEP, (12, 12)), (STAR, (6, 6, 6, 12)), (arms_net((1, 2, 4)), (6, 3, 4, 2, 5, 4, 3, 2))):
            whole = drawn_numbers(draw, net, sizes, bound)
            self.assertGreater(great_prime(whole), bound)
            kind = kind_of_whole(whole)
            self.assertEqual(kind, kind_at(whole, 999983))
        # Lines that depend on one another over all quotients, but not at first sight.
        lines = [[draw.randrange(-10 ** 4, 10 ** 4) for _ in range(5)] for _ in range(4)]
        lines.append([sum(a * b for a, b in zip((3, -7, 11, 5), column)) for column in zip(*lines)])
        whole = Whole(STEP, (5, 5), [lines])
        self.assertEqual(kind_of_whole(whole), {(0, 1): 1, (1, 0): 1, (1, 1): 4})
        self.assertEqual(kind_of_whole(Whole(STEP, (2, 2), [[[bound, bound - 1], [bound - 1, bound - 2]]])), {(1, 1): 2})
        self.assertEqual(kind_of_whole(Whole(ONE, (12,), [])), {(1,): 12})
        self.assertEqual(bad_number(Whole(ARMS_SIX, (0,) * 6, [[]] * 5)), 1)

    def test_example(self):
        self.assertEqual(kind_of_whole(SIX), {(1, 1): 1})
        self.assertEqual([hurdle(SIX, root) for root in ((0, 1), (1, 0), (1, 1))], [1, 6, 1])
        self.assertEqual(bad_number(SIX), 6)
        self.assertEqual(bad_primes(SIX), [(2, {(0, 1): 1, (1, 0): 1}), (3, {(0, 1): 1, (1, 0): 1})])


if __name__ == "__main__":
    unittest.main()
