"""Point [153]: wholes shown to be of their kind by coordinates of whole numbers."""

import unittest

from boughwebs.evenwholes import even_whole
from boughwebs.kinds import kind_row
from boughwebs.wholekinds import bad_number, kind_at, kind_of_whole
from boughwebs.wholes import Whole
from boughwebs.wholesplits import is_whole_split, whole_split
from boughwebs.wholetables import determinant
from tests.drawn import ARMS_SIX, GOOD, ONE, PAIR, RING, STEP, STRAIGHT, check_order, drawn, error_of, good_nets, of_other_kinds
from tests.test_wholekinds import NOT_PRIMES, drawn_wholes
from tests.test_wholes import NO_WHOLES, SIX, drawn_numbers, plain_product


def leads_plainly(whole, kind, coordinates):
    """Whether the tables lead even_whole of the kind into the whole."""
    even = even_whole(whole.net, kind)
    if even.sizes != whole.sizes:
        return False
    for at, (tail, head) in enumerate(whole.net.arrows):
        wide = whole.sizes[tail]
        if (plain_product(whole.tables[at], coordinates[tail], wide)
                != plain_product(coordinates[head], even.tables[at], wide)):
            return False
    return True


class WholeSplitTest(unittest.TestCase):

    def judged(self, whole, prime=None):
        found = whole_split(whole, prime)
        self.assertIs(type(found), tuple)
        kind, coordinates = found
        self.assertEqual(kind, kind_of_whole(whole))
        self.assertIs(type(coordinates), list)
        for table, size in zip(coordinates, whole.sizes):
            self.assertEqual((len(table), {len(line) for line in table}), (size, {size} if size else set()))
            self.assertNotEqual(determinant(table), 0)
            if prime is not None:
                self.assertNotEqual(determinant(table) % prime, 0)
        self.assertTrue(leads_plainly(whole, kind, coordinates))
        self.assertIs(is_whole_split(whole, found), True)
        self.assertEqual(whole_split(whole, prime), found)
        return found

    def test_without_a_prime(self):
        for draw, whole in drawn_wholes(1531, 8, GOOD + good_nets(1532)[-4:]):
            kind, coordinates = self.judged(whole)
            self.assertEqual(whole_split(whole=whole), (kind, coordinates))
            self.assertEqual(whole_split(whole=whole, prime=None), (kind, coordinates))
            # The kind at each prime that divides no determinant is this one.
            for prime in (2, 3, 5, 97, 997):
                if all(determinant(table) % prime for table in coordinates):
                    self.assertEqual(kind_at(whole, prime), kind)

    def test_with_primes(self):
        seen = 0
        for draw, whole in drawn_wholes(1533, 8):
            number = bad_number(whole)
            for prime in (2, 3, 5, 7, 97, 101, 999983):
                if number % prime:
                    self.judged(whole, prime)
                else:
                    seen += 1
                    self.assertEqual(error_of(whole_split, whole, prime), ("NotSo",))
        self.assertGreater(seen, 20)

    def test_great_wholes(self):
        draw = drawn(1534)
        for net, sizes, most in ((STEP, (12, 12), 10 ** 9), (STRAIGHT, (10, 10, 10), 3), (ARMS_SIX, (5,) * 6, 2),
                                 (ONE, (12,), 1), (ARMS_SIX, (0,) * 6, 1)):
            self.judged(drawn_numbers(draw, net, sizes, most))
            self.judged(drawn_numbers(draw, net, sizes, most), 999983)

    def test_otherwise_at_any_place(self):
        for draw, whole in drawn_wholes(1535, 3):
            found = kind, coordinates = whole_split(whole)
            for thing in of_other_kinds(found):
                self.assertIs(is_whole_split(whole, thing), False)
            for place, table in enumerate(coordinates):
                for i, line in enumerate(table):
                    for j in range(len(line)):
                        bent = [[list(some) for some in told] for told in coordinates]
                        bent[place][i][j] += 1
                        told = leads_plainly(whole, kind, bent) and all(map(determinant, bent))
                        self.assertIs(is_whole_split(whole, (kind, bent)), told)
            times = [[[-7 * number for number in line] for line in table] for table in coordinates]
            self.assertIs(is_whole_split(whole, (kind, times)), True)
            none = [[[0] * len(line) for line in table] for table in coordinates]
            self.assertIs(is_whole_split(whole, (kind, none)), not any(whole.sizes))
            self.assertIs(is_whole_split(whole, (kind, coordinates[:-1])), False)
            self.assertIs(is_whole_split(whole, (kind, coordinates + [[]])), False)

    def test_other_kinds(self):
        self.assertIs(is_whole_split(SIX, ({(1, 1): 1}, [[[1]], [[6]]])), True)
        self.assertIs(is_whole_split(SIX, ({(1, 1): 1}, [[[-5]], [[-30]]])), True)
        for thing in (({(0, 1): 1, (1, 0): 1}, [[[1]], [[6]]]), ({(1, 1): 1}, [[[1]], [[1]]]), ({(1, 1): 1}, [[[0]], [[0]]]),
                      ({(1, 1): 2}, [[[1]], [[6]]]), ({}, [[[1]], [[6]]]), ({}, []), ({(1, 1): 1}, ([[1]], [[6]])),
                      ({(1, 1): 1}, [((1,),), ((6,),)]), ({(1, 1): 1}, [[(1,)], [(6,)]]), [{(1, 1): 1}, [[[1]], [[6]]]],
                      ({(1, 1): 1}, [[[1]], [[6]]], None), ({(1, 1): True}, [[[1]], [[6]]]), ({(1, 1): 1}, [[[True]], [[6]]]),
                      ({(1, 1): 1}, [[[1.0]], [[6]]]), ({(1, 1): 1}, [[[1, 0]], [[6]]]), ({(1, 1): 1}, [[[1]], [[6], [6]]]),
                      (None, None), None, 3, ({(2, 1): 1}, [[[1]], [[6]]])):
            self.assertIs(is_whole_split(SIX, thing), False, thing)
        nought = Whole(STEP, (1, 1), [[[0]]])
        self.assertIs(is_whole_split(nought, ({(1, 0): 1, (0, 1): 1}, [[[3]], [[-2]]])), True)
        self.assertIs(is_whole_split(nought, ({(1, 1): 1}, [[[1]], [[1]]])), False)
        self.assertEqual(kind_row(STEP, whole_split(nought)[0]), (1, 1))

    def test_errors_in_their_order(self):
        other = Whole(PAIR, (1, 1), [[[1]], [[1]]])
        for wrong in NO_WHOLES:
            for prime in [some for some in NOT_PRIMES if some is not None]:
                check_order(self, whole_split, {"whole": SIX, "prime": 5}, [
                    ("whole", wrong, ("BadWhole", None)), ("whole", other, ("NotGood",)),
                    ("prime", prime, ("BadPrime",)), ("prime", 3, ("NotSo",))])
            self.assertEqual(error_of(is_whole_split, wrong, None), ("BadWhole", None))
        self.assertEqual(error_of(is_whole_split, Whole(RING, (0, 0, 0), [[]] * 3), None), ("NotGood",))
        for prime in (2, 3):
            self.assertEqual(error_of(whole_split, SIX, prime), ("NotSo",))
        self.assertEqual(whole_split(SIX, 5)[0], {(1, 1): 1})


if __name__ == "__main__":
    unittest.main()
