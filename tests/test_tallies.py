"""Point [140]: tallies, their sums and products, and those of whole tables and of choices."""

import unittest
from fractions import Fraction

from boughwebs.solving import count_whole, rank, tidy
from boughwebs.tallies import (choices_tally, is_tally, tally_at, tally_less, tally_product, tally_sum, tally_through,
                               whole_tally)
from boughwebs.tables import across
from tests.drawn import all_tables, check_order, drawn, error_of, of_other_kinds

NO_TALLIES = [None, 3, [], [1], (0,), (1, 0), (True,), (1, True), (1, 2.0), ("1",), (None,), "12", (1,) * 2001,
              ((1,),), {}]
TALLIES = [(), (1,), (-1,), (0, 1), (1, 2, 3), (-1, 0, 1), (0, 0, 0, 5), (2, -7, 11, 4), (10 ** 30, 1), (0, 2)]


def drawn_tally(draw, most=6):
    numbers = [draw.randrange(-5, 6) for _ in range(draw.randrange(most))]
    while numbers and not numbers[-1]:
        numbers.pop()
    return tuple(numbers)


def at_plainly(tally, number):
    return sum(item * number ** k for k, item in enumerate(tally))


def through_plainly(one, other):
    """The quotient by fractions; None if one is left over, or if it is not whole."""
    rest = [Fraction(item) for item in one]
    found = []
    while len(rest) >= len(other):
        found.append(rest[-1] / other[-1])
        for k in range(1, len(other) + 1):
            rest[-k] -= found[-1] * other[-k]
        rest.pop()
    whole = all(number.denominator == 1 for number in found) and not any(rest)
    return tuple(int(number) for number in reversed(found)) if whole else None


class TallyTest(unittest.TestCase):

    def test_is_tally(self):
        for tally in TALLIES + [(1,) * 2000, (0,) * 1999 + (1,)]:
            self.assertIs(is_tally(thing=tally), True)
        for thing in NO_TALLIES + [(0,) * 2000 + (1,)]:
            self.assertIs(is_tally(thing), False)
        for thing in of_other_kinds((1, 0, 2)):
            self.assertIs(is_tally(thing), False)

    def test_tally_at(self):
        for tally in TALLIES:
            for number in (0, 1, -1, 2, 97, -10 ** 6, 10 ** 6):
                self.assertEqual(tally_at(tally=tally, number=number), at_plainly(tally, number))
        self.assertEqual(tally_at((0,) * 1999 + (1,), 10 ** 6), 10 ** (6 * 1999))
        for wrong in NO_TALLIES:
            for number in (None, True, 2.0, "2", 10 ** 6 + 1, -10 ** 6 - 1):
                check_order(self, tally_at, {"tally": (1, 2), "number": 3}, [
                    ("tally", wrong, ("BadTally",)), ("number", number, ("BadNumber", "number"))])

    def test_sums_and_products(self):
        draw = drawn(1401)
        self.assertEqual((tally_sum(tallies=[]), tally_product(tallies=[])), ((), (1,)))
        self.assertEqual((tally_sum(()), tally_product(())), ((), (1,)))
        for _ in range(200):
            some = [drawn_tally(draw) for _ in range(draw.randrange(1, 4))]
            for number in (-3, 0, 1, 2, 10):
                values = [at_plainly(tally, number) for tally in some]
                product = 1
                for value in values:
                    product *= value
                self.assertEqual(at_plainly(tally_sum(some), number), sum(values))
                self.assertEqual(at_plainly(tally_product(some), number), product)
            self.assertTrue(is_tally(tally_sum(some)) and is_tally(tally_product(some)))
            self.assertEqual(tally_sum(tuple(some)), tally_sum(some))
            self.assertEqual(tally_product(tuple(some)), tally_product(some))
        self.assertEqual(tally_sum([(1, 2, 3), (0, 0, -3)]), (1, 2))
        self.assertEqual(tally_sum([(1, 2), (-1, -2)]), ())

    def test_products_of_many_numbers(self):
        self.assertEqual(tally_product([(0,) * 999 + (1,), (0,) * 1000 + (2,)]), (0,) * 1999 + (2,))
        self.assertEqual(error_of(tally_product, [(0,) * 1000 + (1,), (0,) * 1000 + (2,)]), ("BadTally",))
        self.assertEqual(error_of(tally_product, [(1,) * 2000, (0, 1)]), ("BadTally",))
        self.assertEqual(tally_product([(1,) * 2000, (3,)]), (3,) * 2000)
        self.assertEqual(tally_product([(1,) * 2000, (0, 1), ()]), ())
        self.assertEqual(tally_product([(), (1,) * 2000, (1,) * 2000]), ())
        for work in (tally_sum, tally_product):
            for wrong in NO_TALLIES[:-1]:
                for some in ([wrong], [(1,), wrong], [(), wrong], [wrong, ()]):
                    self.assertEqual(error_of(work, some), ("BadTally",))
            for wrong in (None, 3, "tallies", {}, (1, 2), [1]):
                self.assertEqual(error_of(work, wrong), ("BadTally",))

    def test_tally_less(self):
        for one in TALLIES:
            for other in TALLIES:
                found = tally_less(one=one, other=other)
                self.assertTrue(is_tally(found))
                self.assertEqual(tally_sum([found, other]), one)
        self.assertEqual(tally_less((1, 2, 3), (0, 1, 3)), (1, 1))

    def test_tally_through(self):
        draw = drawn(1402)
        for _ in range(300):
            one, other = drawn_tally(draw), drawn_tally(draw)
            if other:
                self.assertEqual(tally_through(one=tally_product([one, other]), other=other), one)
                found = tally_through(one, other)
                self.assertEqual(found, through_plainly(one, other))
        for one, other, told in (((), (2,), ()), ((2,), (3,), None), ((1, 1), (0, 1), None), ((4, 2), (2,), (2, 1)),
                                 ((-1, 0, 1), (1, 1), (-1, 1)), ((1, 0, 1), (1, 1), None), ((1,), (1, 1), None),
                                 ((0, 1), (0, 1), (1,)), ((3, 3), (2, 2), None), ((1, 2), (1, 2), (1,)),
                                 ((1, 3), (1, 2), None)):
            self.assertEqual(tally_through(one, other), told)
        self.assertEqual(error_of(tally_through, (1,), ()), ("BadTally",))
        self.assertEqual(error_of(tally_through, (), ()), ("BadTally",))

    def test_wrong_tallies(self):
        for work in (tally_less, tally_through):
            for wrong in NO_TALLIES:
                check_order(self, work, {"one": (1, 2), "other": (1,)}, [
                    ("one", wrong, ("BadTally",)), ("other", wrong, ("BadTally",))])


class CountTest(unittest.TestCase):

    def test_whole_tally(self):
        self.assertEqual([whole_tally(size=size) for size in (0, 1, 2)], [(1,), (-1, 1), (0, 1, -1, -1, 1)])
        for size in range(13):
            for prime in (2, 3, 5, 97):
                self.assertEqual(tally_at(whole_tally(size), prime), count_whole(prime, size))
            self.assertEqual(len(whole_tally(size)), size * size + 1)

    def test_choices_tally(self):
        for size in range(13):
            for part in range(13):
                found = choices_tally(size=size, part=part)
                if part > size:
                    self.assertEqual(found, ())
                    continue
                power = (0,) * (part * (size - part)) + (1,)
                below = tally_product([whole_tally(part), whole_tally(size - part), power])
                self.assertEqual(found, tally_through(whole_tally(size), below))
        for prime, size in ((2, 3), (3, 2), (2, 4)):
            for part in range(size + 1):
                many = len([table for table in all_tables(prime, size, part)
                            if tidy(across(table)) == across(table) and rank(table) == part])
                self.assertEqual(tally_at(choices_tally(size, part), prime), many)

    def test_wrong_sizes(self):
        for wrong in (None, -1, 13, True, 2.0, "2", (2,)):
            self.assertEqual(error_of(whole_tally, wrong), ("BadNumber", "size"))
            check_order(self, choices_tally, {"size": 3, "part": 2}, [
                ("size", wrong, ("BadNumber", "size")), ("part", wrong, ("BadNumber", "part"))])


if __name__ == "__main__":
    unittest.main()
