"""Square tables as sums of companions, and the plain vectors that they are told by."""

import unittest

from boughwebs.cyclings import cyclic_parts
from boughwebs.polys import bare_polys, companion, is_bare, poly_power
from boughwebs.solving import inverse, kernel, rank, tidy
from boughwebs.tables import Table, columns_of, corner, empty, plain, scaled, times
from boughwebs.vectors import (combined, common_of_spaces, exchanged, independent_of, inverse_columns,
                               kernel_of_columns, lessened, reduced_vectors, span_of_vectors, units)
from tests.drawn import drawn, drawn_table, drawn_whole


def table_of(prime, columns, tall):
    return Table(prime, tall, len(columns), exchanged(columns, tall))


class CyclicTest(unittest.TestCase):

    def judged(self, table):
        prime, size = table.prime, table.tall
        found = cyclic_parts(prime, columns_of(table))
        self.assertEqual(cyclic_parts(prime, columns_of(table)), found)
        columns = []
        for poly, e, chain in found:
            self.assertTrue(is_bare(prime, poly))
            self.assertEqual(len(chain), (len(poly) - 1) * e)
            columns += chain
        way = table_of(prime, columns, size)
        told = [companion(prime, poly_power(prime, poly, e)) for poly, e, _ in found]
        goal = corner([empty(prime, 0, 0)] + told)
        self.assertEqual(times(table, way), times(way, goal))
        self.assertEqual(rank(way), size)
        return sorted((poly, e) for poly, e, _ in found)

    def test_drawn_sums_of_companions(self):
        draw = drawn(1001)
        for prime in (2, 3, 97):
            polys = bare_polys(prime, 1)[:4] + (bare_polys(prime, 2) + bare_polys(prime, 3) if prime < 5 else [])
            for _ in range(60):
                names = sorted((draw.choice(polys), draw.randrange(1, 4)) for _ in range(draw.randrange(5)))
                told = [companion(prime, poly_power(prime, poly, e)) for poly, e in names]
                table = corner([empty(prime, 0, 0)] + told)
                turn = drawn_whole(draw, prime, table.tall)
                self.assertEqual(self.judged(times(turn, times(table, inverse(turn)))), names)

    def test_drawn_tables(self):
        draw = drawn(1002)
        for prime in (2, 3, 5, 97):
            for _ in range(60):
                size = draw.randrange(8)
                self.judged(drawn_table(draw, prime, size, size, draw.choice((0.2, 0.5, 1))))
        self.judged(scaled(plain(97, 12), 96))
        self.judged(empty(2, 12, 12))
        self.judged(drawn_table(draw, 97, 30, 30))


class VectorsTest(unittest.TestCase):

    def test_as_tables_tell(self):
        draw = drawn(1003)
        for _ in range(300):
            prime, tall, wide = draw.choice((2, 3, 97)), draw.randrange(6), draw.randrange(6)
            table = drawn_table(draw, prime, tall, wide, draw.choice((0.2, 0.5, 1)))
            leading = reduced_vectors(prime, [list(line) for line in table.lines])
            lines = [leading[k] for k in sorted(leading)]
            self.assertEqual([list(line) for line in tidy(table).lines if any(line)], lines)
            self.assertEqual(span_of_vectors(prime, [list(line) for line in table.lines]), lines)
            if tall:
                columns, free = kernel_of_columns(prime, columns_of(table))
                self.assertEqual(columns, columns_of(kernel(table)))
                self.assertEqual(free, [k for k in range(wide) if k not in leading])
            many = [draw.randrange(prime) for _ in range(wide)]
            told = times(table, Table(prime, wide, 1, [[number] for number in many]))
            self.assertEqual(combined(prime, columns_of(table), many, tall), [line[0] for line in told.lines])
            vector = [draw.randrange(prime) for _ in range(wide)]
            rest = lessened(prime, leading, vector)
            self.assertTrue(all(rest[k] == 0 for k in leading))
            less = [(a - b) % prime for a, b in zip(vector, rest)]
            self.assertEqual(len(reduced_vectors(prime, lines + [less])), len(lines))
        self.assertEqual(kernel_of_columns(5, [[], []]), ([[1, 0], [0, 1]], [0, 1]))
        self.assertEqual((units(2), exchanged([], 2), exchanged([[1, 2]], 2)), ([[1, 0], [0, 1]], [[], []], [[1], [2]]))

    def test_spaces(self):
        draw = drawn(1004)
        for _ in range(200):
            prime, size = draw.choice((2, 3)), draw.randrange(1, 6)
            some = [span_of_vectors(prime, [[draw.randrange(prime) for _ in range(size)]
                                            for _ in range(draw.randrange(size + 1))]) for _ in range(2)]
            common = common_of_spaces(prime, some[0], some[1], size)
            both = span_of_vectors(prime, some[0] + some[1])
            self.assertEqual(len(common) + len(both), len(some[0]) + len(some[1]))
            for space in some:
                self.assertEqual(span_of_vectors(prime, space + common), space)
            places = independent_of(prime, some[0], some[1])
            told = [some[1][k] for k in places]
            self.assertEqual(len(some[0]) + len(told), len(both))
            self.assertEqual(span_of_vectors(prime, some[0] + told), both)

    def test_inverses(self):
        draw = drawn(1005)
        for _ in range(60):
            table = drawn_whole(draw, draw.choice((2, 5, 97)), draw.randrange(6))
            found = inverse_columns(table.prime, columns_of(table))
            self.assertEqual(found, columns_of(inverse(table)))


if __name__ == "__main__":
    unittest.main()
