"""Point [10]: the reduced form, and what it tells."""

import unittest

from boughwebs.errors import BadNumber, BadPrime, BadTable
from boughwebs.solving import count_whole, inverse, is_whole, kernel, left_over, rank, solved, tidy
from boughwebs.tables import Table, across, beside, corner, empty, over, plain, times
from tests.drawn import all_tables, drawn, drawn_table, drawn_whole

ONE_TABLE = (tidy, rank, kernel, left_over, inverse, is_whole)


def of_rank(draw, prime, tall, wide, many):
    """Some table of this rank."""
    middle = corner([plain(prime, many), empty(prime, tall - many, wide - many)])
    return times(drawn_whole(draw, prime, tall), times(middle, drawn_whole(draw, prime, wide)))


def tables_of_all_ranks(seed, most=5):
    draw = drawn(seed)
    for prime in (2, 3, 7, 97):
        for tall in range(most):
            for wide in range(most):
                for many in range(min(tall, wide) + 1):
                    yield draw, of_rank(draw, prime, tall, wide, many), many


def leading(line):
    return next((k for k, number in enumerate(line) if number), None)


class TidyTest(unittest.TestCase):

    def test_by_hand(self):
        one = Table(5, 3, 4, [[0, 2, 4, 1], [0, 1, 2, 4], [0, 0, 0, 2]])
        self.assertEqual(tidy(one), Table(5, 3, 4, [[0, 1, 2, 0], [0, 0, 0, 1], [0, 0, 0, 0]]))
        self.assertEqual(rank(one), 2)
        self.assertEqual(kernel(one), Table(5, 4, 2, [[1, 0], [0, -2], [0, 1], [0, 0]]))

    def test_form(self):
        for _, one, many in tables_of_all_ranks(1):
            found = tidy(one)
            self.assertEqual((found.prime, found.tall, found.wide), (one.prime, one.tall, one.wide))
            firsts = [leading(line) for line in found.lines]
            ahead = firsts[:many]
            self.assertEqual(ahead, sorted(set(ahead) - {None}))
            self.assertEqual(firsts[many:], [None] * (one.tall - many))
            for at, first in enumerate(ahead):
                column = [line[first] for line in found.lines]
                self.assertEqual(column, [1 if k == at else 0 for k in range(one.tall)])

    def test_same_span(self):
        for draw, one, many in tables_of_all_ranks(2):
            found = tidy(one)
            self.assertEqual(tidy(over([one, found])), over([found, empty(one.prime, one.tall, one.wide)]))
            turned = times(drawn_whole(draw, one.prime, one.tall), one)
            self.assertEqual(tidy(turned), found)
            self.assertEqual(tidy(found), found)

    def test_rank(self):
        for draw, one, many in tables_of_all_ranks(3):
            self.assertEqual(rank(one), many)
            self.assertEqual(rank(across(one)), many)
            two = drawn_table(draw, one.prime, one.wide, 3)
            self.assertLessEqual(rank(times(one, two)), min(many, rank(two)))


class KernelTest(unittest.TestCase):

    def test_kernel_is_of_its_form(self):
        for _, one, many in tables_of_all_ranks(4):
            found = kernel(one)
            self.assertEqual((found.tall, found.wide), (one.wide, one.wide - many))
            self.assertEqual(times(one, found), empty(one.prime, one.tall, found.wide))
            firsts = [leading(line) for line in tidy(one).lines[:many]]
            free = [k for k in range(one.wide) if k not in firsts]
            part = Table(one.prime, len(free), found.wide, [found.lines[k] for k in free])
            self.assertEqual(part, plain(one.prime, len(free)))

    def test_left_over(self):
        for _, one, many in tables_of_all_ranks(5):
            found = left_over(one)
            self.assertEqual(found, across(kernel(across(one))))
            self.assertEqual((found.tall, found.wide), (one.tall - many, one.tall))
            self.assertEqual(times(found, one), empty(one.prime, found.tall, one.wide))
            self.assertEqual(rank(found), one.tall - many)

    def test_without_lines_or_columns(self):
        self.assertEqual(kernel(empty(3, 0, 4)), plain(3, 4))
        self.assertEqual(kernel(empty(3, 4, 0)), empty(3, 0, 0))
        self.assertEqual(left_over(empty(3, 4, 0)), plain(3, 4))
        self.assertEqual(left_over(empty(3, 0, 4)), empty(3, 0, 0))
        self.assertEqual(tidy(empty(3, 0, 4)), empty(3, 0, 4))
        self.assertEqual(rank(empty(3, 4, 0)), 0)
        self.assertEqual(kernel(empty(3, 60, 60)), plain(3, 60))

    def test_great(self):
        draw = drawn(6)
        one = of_rank(draw, 97, 60, 60, 45)
        self.assertEqual((rank(one), kernel(one).wide, left_over(one).tall), (45, 15, 15))


class SolvedTest(unittest.TestCase):

    def test_goals_that_are_reached(self):
        for draw, one, many in tables_of_all_ranks(7):
            goal = times(one, drawn_table(draw, one.prime, one.wide, 2))
            found = solved(one, goal)
            self.assertEqual(times(one, found), goal)
            self.assertEqual((found.tall, found.wide), (one.wide, 2))
            firsts = [leading(line) for line in tidy(one).lines[:many]]
            for k in range(one.wide):
                if k not in firsts:
                    self.assertEqual(found.lines[k], (0, 0))

    def test_goals_that_are_not(self):
        seen = 0
        for draw, one, many in tables_of_all_ranks(8):
            goal = drawn_table(draw, one.prime, one.tall, 2)
            found = solved(one=one, goal=goal)
            reached = rank(beside([one, goal])) == many
            self.assertEqual(found is not None, reached)
            seen += not reached
        self.assertGreater(seen, 20)

    def test_by_hand(self):
        one = Table(5, 2, 3, [[1, 2, 0], [0, 0, 1]])
        self.assertEqual(solved(one, Table(5, 2, 1, [[3], [4]])), Table(5, 3, 1, [[3], [0], [4]]))
        self.assertIsNone(solved(Table(5, 2, 1, [[1], [2]]), Table(5, 2, 1, [[1], [3]])))
        self.assertEqual(solved(empty(5, 2, 0), empty(5, 2, 1)), empty(5, 0, 1))
        self.assertIsNone(solved(empty(5, 1, 0), Table(5, 1, 1, [[1]])))
        self.assertEqual(solved(empty(5, 0, 2), empty(5, 0, 3)), empty(5, 2, 3))
        self.assertEqual(solved(plain(5, 2), empty(5, 2, 0)), empty(5, 2, 0))

    def test_wrong(self):
        for one, goal in ((plain(3, 2), plain(3, 3)), (plain(3, 2), plain(5, 2)), (None, plain(3, 2)),
                          (plain(3, 2), [[1, 0], [0, 1]])):
            with self.assertRaises(BadTable):
                solved(one, goal)

    def test_inverse(self):
        for _, one, many in tables_of_all_ranks(9):
            whole = one.tall == one.wide == many
            found = inverse(one)
            self.assertEqual(found is not None, whole)
            self.assertIs(is_whole(one), whole)
            if whole:
                self.assertEqual(times(one, found), plain(one.prime, many))
                self.assertEqual(times(found, one), plain(one.prime, many))
        self.assertEqual(inverse(plain(3, 60)), plain(3, 60))
        self.assertEqual(inverse(empty(3, 0, 0)), empty(3, 0, 0))
        self.assertIs(is_whole(empty(3, 0, 0)), True)
        self.assertIs(is_whole(empty(3, 0, 1)), False)

    def test_inverse_of_each_number(self):
        for prime in (2, 3, 5, 89, 97):
            for number in range(1, prime):
                found = inverse(Table(prime, 1, 1, [[number]])).lines[0][0]
                self.assertEqual(number * found % prime, 1)

    def test_no_table(self):
        for work in ONE_TABLE:
            for thing in (None, 3, [[1]], ((1,),), "x"):
                with self.assertRaises(BadTable):
                    work(thing)
                with self.assertRaises(BadTable):
                    work(one=thing)


class CountWholeTest(unittest.TestCase):

    def test_against_all_tables(self):
        for prime in (2, 3):
            for size in (0, 1, 2):
                many = sum(is_whole(one) for one in all_tables(prime, size, size))
                self.assertEqual(count_whole(prime, size), many)
                by_sight = sum(1 for one in all_tables(prime, size, size) if self.has_inverse(one))
                self.assertEqual(count_whole(prime=prime, size=size), by_sight)

    def has_inverse(self, one):
        size = one.tall
        return any(times(one, other) == plain(one.prime, size) for other in all_tables(one.prime, size, size))

    def test_known(self):
        self.assertEqual(count_whole(2, 3), 168)
        self.assertEqual(count_whole(97, 1), 96)
        self.assertEqual(count_whole(2, 60), count_whole(2, 59) * 2 ** 59 * (2 ** 60 - 1))

    def test_wrong(self):
        for prime in (1, 4, 101, True, None):
            with self.assertRaises(BadPrime):
                count_whole(prime, -1)
        for size in (-1, 61, True, None, 1.0, "2"):
            with self.assertRaises(BadNumber) as caught:
                count_whole(3, size)
            self.assertEqual(caught.exception.part, "size")


if __name__ == "__main__":
    unittest.main()
