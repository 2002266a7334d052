"""Point [10]: tables over a prime field, what is made of them line by line."""

import unittest
import unittest.mock

from boughwebs.errors import BadNumber, BadPrime, BadTable
from boughwebs.tables import Table, across, beside, corner, empty, minus, over, plain, plus, scaled, times
from tests.drawn import drawn, drawn_table, plain_times

WRONG_PRIMES = (True, False, None, "3", 3.0, (3,), -3, 0, 1, 4, 9, 49, 91, 95, 98, 101, 10 ** 30)
WRONG_SIZES = (True, None, "1", 1.0, -1, 61, 10 ** 30)


class TableTest(unittest.TestCase):

    def test_attributes(self):
        one = Table(5, 2, 3, [[1, -1, 7], [10 ** 20, 0, -12]])
        self.assertEqual((one.prime, one.tall, one.wide), (5, 2, 3))
        self.assertEqual(one.lines, ((1, 4, 2), (0, 0, 3)))
        self.assertIs(type(one.lines), tuple)
        self.assertTrue(all(type(line) is tuple for line in one.lines))

    def test_lists_and_tuples_alike(self):
        one = Table(5, 2, 1, [[1], [2]])
        self.assertEqual(one, Table(5, 2, 1, ((1,), (2,))))
        self.assertEqual(one, Table(5, 2, 1, [(1,), [2]]))

    def test_by_name(self):
        self.assertEqual(Table(prime=3, tall=1, wide=1, lines=[[5]]).lines, ((2,),))

    def test_nothing_handed_in_is_kept_or_changed(self):
        lines = [[7, 8], [9, 10]]
        one = Table(3, 2, 2, lines)
        self.assertEqual(lines, [[7, 8], [9, 10]])
        lines[0][0] = 0
        lines.append([1, 1])
        self.assertEqual(one.lines, ((1, 2), (0, 1)))

    def test_all_primes(self):
        found = []
        for prime in range(-2, 120):
            try:
                Table(prime, 0, 0, [])
                found.append(prime)
            except BadPrime:
                pass
        self.assertEqual(found, [p for p in range(2, 98) if all(p % k for k in range(2, p))])

    def test_bad_prime_comes_first(self):
        for prime in WRONG_PRIMES:
            with self.assertRaises(BadPrime):
                Table(prime, -1, "x", None)

    def test_bad_sizes_and_lines(self):
        for size in WRONG_SIZES:
            with self.assertRaises(BadTable):
                Table(3, size, 1, [[1]])
            with self.assertRaises(BadTable):
                Table(3, 1, size, [[1]])
        for lines in (None, 5, "ab", {}, {0: [1, 2]}, [], [[1, 2]], [[1, 2], [3]], [[1, 2], [3, 4, 5]],
                      [[1, 2], [3, 4], [5, 6]], [[1, 2], 3], [[1, 2], "ab"], [[1, 2], [3, True]],
                      [[1, 2], [3, 4.0]], [[1, 2], [3, None]], [[1, 2], {0: 1, 1: 2}], {(1, 2), (3, 4)}):
            with self.assertRaises(BadTable):
                Table(3, 2, 2, lines)

    def test_without_lines_or_columns(self):
        self.assertEqual(Table(3, 0, 4, []).lines, ())
        self.assertEqual(Table(3, 2, 0, [[], []]).lines, ((), ()))
        self.assertNotEqual(Table(3, 0, 4, []), Table(3, 0, 3, []))
        self.assertNotEqual(Table(3, 0, 0, []), Table(5, 0, 0, []))
        with self.assertRaises(BadTable):
            Table(3, 0, 4, [[]])
        with self.assertRaises(BadTable):
            Table(3, 2, 0, [])

    def test_size_sixty(self):
        lines = [[k + j for j in range(60)] for k in range(60)]
        self.assertEqual(Table(97, 60, 60, lines).lines[59][59], 118 % 97)
        with self.assertRaises(BadTable):
            Table(97, 61, 60, lines + [[0] * 60])
        with self.assertRaises(BadTable):
            Table(97, 60, 61, [line + [0] for line in lines])

    def test_equal(self):
        one = Table(3, 1, 1, [[1]])
        self.assertEqual(one, Table(3, 1, 1, [[4]]))
        self.assertFalse(one != Table(3, 1, 1, [[-2]]))
        self.assertNotEqual(one, Table(5, 1, 1, [[1]]))
        self.assertNotEqual(one, Table(3, 1, 1, [[2]]))
        for other in (1, ((1,),), [[1]], None, "x", (3, 1, 1, ((1,),)), unittest.mock.ANY):
            self.assertFalse(one == other)

    def test_cannot_be_iterated_over(self):
        with self.assertRaises(TypeError):
            iter(Table(3, 1, 1, [[1]]))
        with self.assertRaises(TypeError):
            list(plain(3, 2))


class MadeTest(unittest.TestCase):

    def test_times(self):
        one = Table(7, 2, 3, [[1, 2, 3], [4, 5, 6]])
        two = Table(7, 3, 1, [[1], [-1], [2]])
        self.assertEqual(times(one, two), Table(7, 2, 1, [[5], [11]]))
        self.assertEqual(times(one=one, two=two), times(one, two))

    def test_times_against_plain_loops(self):
        draw = drawn(1)
        for _ in range(60):
            prime = draw.choice((2, 3, 97))
            a, b, c = draw.randrange(5), draw.randrange(1, 5), draw.randrange(5)
            one, two = drawn_table(draw, prime, a, b), drawn_table(draw, prime, b, c)
            lines = plain_times(one.lines, two.lines, prime)
            self.assertEqual(times(one, two), Table(prime, a, c, lines))

    def test_times_over_no_room(self):
        self.assertEqual(times(empty(3, 2, 0), empty(3, 0, 4)), empty(3, 2, 4))
        self.assertEqual(times(empty(3, 0, 2), plain(3, 2)), empty(3, 0, 2))
        self.assertEqual(times(plain(3, 2), empty(3, 2, 0)), empty(3, 2, 0))

    def test_times_that_does_not_fit(self):
        for one, two in ((plain(3, 2), plain(3, 3)), (plain(3, 2), plain(5, 2)), (plain(3, 2), 4),
                         (None, plain(3, 2)), (((1,),), plain(3, 1))):
            with self.assertRaises(BadTable):
                times(one, two)

    def test_plus_minus_scaled(self):
        one, two = Table(5, 1, 2, [[1, 2]]), Table(5, 1, 2, [[4, 4]])
        self.assertEqual(plus(one, two), Table(5, 1, 2, [[0, 1]]))
        self.assertEqual(minus(one=one, two=two), Table(5, 1, 2, [[2, 3]]))
        self.assertEqual(scaled(one, -3), Table(5, 1, 2, [[2, 4]]))
        self.assertEqual(scaled(one=one, number=0), empty(5, 1, 2))
        self.assertEqual(scaled(one, 10 ** 40 + 2), Table(5, 1, 2, [[2, 4]]))
        for other in (across(two), plain(5, 2), Table(7, 1, 2, [[4, 4]]), None, [[4, 4]]):
            for work in (plus, minus):
                with self.assertRaises(BadTable):
                    work(one, other)
                with self.assertRaises(BadTable):
                    work(other, one)

    def test_scaled_by_no_number(self):
        for number in (True, None, 1.0, "2", [1]):
            with self.assertRaises(BadNumber) as caught:
                scaled(plain(3, 1), number)
            self.assertEqual(caught.exception.part, "number")
        with self.assertRaises(BadTable):
            scaled(7, "x")

    def test_plain_and_empty(self):
        self.assertEqual(plain(3, 2), Table(3, 2, 2, [[1, 0], [0, 1]]))
        self.assertEqual(plain(prime=3, size=0), Table(3, 0, 0, []))
        self.assertEqual(empty(prime=3, tall=1, wide=2), Table(3, 1, 2, [[0, 0]]))
        self.assertEqual(empty(3, 0, 60).lines, ())
        self.assertEqual(plain(3, 60).tall, 60)

    def test_plain_and_empty_of_wrong_numbers(self):
        for prime in WRONG_PRIMES:
            for work in (lambda: plain(prime, "x"), lambda: empty(prime, "x", "y")):
                with self.assertRaises(BadPrime):
                    work()
        for size in WRONG_SIZES:
            for work, part in ((lambda: plain(3, size), "size"), (lambda: empty(3, size, "x"), "tall"),
                               (lambda: empty(3, 0, size), "wide")):
                with self.assertRaises(BadNumber) as caught:
                    work()
                self.assertEqual(caught.exception.part, part)

    def test_across(self):
        self.assertEqual(across(Table(5, 2, 3, [[1, 2, 3], [4, 0, 1]])), Table(5, 3, 2, [[1, 4], [2, 0], [3, 1]]))
        self.assertEqual(across(one=empty(5, 0, 3)), empty(5, 3, 0))
        draw = drawn(2)
        for _ in range(20):
            one, two = drawn_table(draw, 7, 2, 3), drawn_table(draw, 7, 3, 4)
            self.assertEqual(across(times(one, two)), times(across(two), across(one)))
        with self.assertRaises(BadTable):
            across([[1]])

    def test_beside_over_corner(self):
        one, two = Table(5, 1, 2, [[1, 2]]), Table(5, 1, 1, [[3]])
        self.assertEqual(beside([one, two, one]), Table(5, 1, 5, [[1, 2, 3, 1, 2]]))
        self.assertEqual(over((across(one), two)), Table(5, 3, 1, [[1], [2], [3]]))
        self.assertEqual(corner([one, two]), Table(5, 2, 3, [[1, 2, 0], [0, 0, 3]]))
        for work in (beside, over, corner):
            self.assertEqual(work(tables=[one]), one)
            self.assertEqual(work([one, one]), work((one, one)))

    def test_beside_over_corner_without_lines_or_columns(self):
        self.assertEqual(beside([empty(3, 0, 2), empty(3, 0, 3)]), empty(3, 0, 5))
        self.assertEqual(beside([empty(3, 2, 0), plain(3, 2)]), plain(3, 2))
        self.assertEqual(over([empty(3, 0, 2), plain(3, 2)]), plain(3, 2))
        self.assertEqual(over([empty(3, 2, 0), empty(3, 3, 0)]), empty(3, 5, 0))
        self.assertEqual(corner([empty(3, 0, 2), plain(3, 1), empty(3, 1, 0)]), Table(3, 2, 3, [[0, 0, 1], [0, 0, 0]]))
        self.assertEqual(corner([empty(3, 0, 0)]), empty(3, 0, 0))

    def test_lists_that_do_not_fit(self):
        two, three = plain(3, 2), plain(3, 3)
        for work in (beside, over, corner):
            for tables in ([], (), None, 5, two, "ab", {}, [two, 5], [None], [two, plain(5, 2)], [[two]]):
                with self.assertRaises(BadTable):
                    work(tables)
        for work in (beside, over):
            with self.assertRaises(BadTable):
                work([two, three])
            for tables in ([empty(3, 2, 0), empty(3, 3, 0)], [empty(3, 0, 2), empty(3, 0, 3)]):
                if (tables[0].tall == 0) == (work is over):
                    with self.assertRaises(BadTable):
                        work(tables)
        self.assertEqual(corner([two, three]), plain(3, 5))

    def test_sums_to_sixty_and_above(self):
        half, more = empty(3, 30, 30), empty(3, 31, 31)
        self.assertEqual(beside([half, half]), empty(3, 30, 60))
        self.assertEqual(over([half, half]), empty(3, 60, 30))
        self.assertEqual(corner([half, half]), empty(3, 60, 60))
        for work in (beside, over, corner):
            with self.assertRaises(BadTable):
                work([more, more])
        for tables in ([empty(3, 31, 0), empty(3, 30, 0)], [empty(3, 0, 31), empty(3, 0, 30)]):
            with self.assertRaises(BadTable):
                corner(tables)

    def test_lists_are_not_changed(self):
        tables = [plain(3, 1), plain(3, 1)]
        for work in (beside, over, corner):
            work(tables)
        self.assertEqual(tables, [plain(3, 1), plain(3, 1)])


if __name__ == "__main__":
    unittest.main()
