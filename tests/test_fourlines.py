"""Points [130], [131]: fours led on and back, the names of the least ones, kinds and their sums."""

import unittest

from boughwebs.fourlines import (are_fours, four_net, four_sizes, is_four_name, least_four, step_back, step_on,
                                 sum_of_fours)
from boughwebs.maps import count_maps
from boughwebs.nets import Net
from boughwebs.polys import bare_polys, companion, poly_power
from boughwebs.solving import kernel, left_over
from boughwebs.splits import is_least
from boughwebs.tables import Table, beside, empty, over, plain
from boughwebs.webs import Web, bare, sum_of
from tests.drawn import FIVE, PAIR, STAR, check_order, drawn, drawn_web, error_of, of_other_kinds
from tests.test_polys import WRONG_PRIMES

FOURS = four_net()
NO_FOURS = [None, 3, FOURS, (), "four", bare(FIVE, 3, (1, 1, 1, 1, 2)), bare(PAIR, 3, (1, 1)), bare(STAR, 2, (1,) * 4),
            bare(Net(5, ((1, 4), (0, 4), (2, 4), (3, 4))), 2, (1,) * 5)]
BARE = {prime: bare_polys(prime, 1) + bare_polys(prime, 2) + bare_polys(prime, 3) for prime in (2, 3)}
BARE[5] = bare_polys(5, 1) + bare_polys(5, 2)[::4]
BARE[97] = bare_polys(97, 1)[::16] + [(96, 1), (95, 1)]


def turn_names(prime, most=6):
    polys = [poly for poly in BARE[prime] if poly not in ((0, 1), (prime - 1, 1))]
    return [("turn", poly, e) for poly in polys for e in range(1, most // (len(poly) - 1) + 1)]


def all_names(prime, steps=12, knots=12, turns=6):
    """All names with so many steps, knots and turns of at most this size."""
    found = [(word, k, i) for word in ("early", "late") for k in range(steps) for i in range(5)]
    found += [("knot", i, j, e) for i in range(3) for j in range(2) for e in range(1, knots + 1)]
    return found + turn_names(prime, turns)


def drawn_names(draw, prime, most):
    """A kind of fours with sizes that sum up to at most so much."""
    names = [name for name in all_names(prime) if sum(four_sizes(prime, name)) <= most]
    found = []
    while True:
        name = draw.choice(names)
        most -= sum(four_sizes(prime, name))
        if most < 0:
            return tuple(sorted(found))
        found.append(name)


def on_plainly(web):
    """step_on by the definition: the middle, and the Tables."""
    both = kernel(beside(web.tables))
    found, ahead = [], 0
    for size in web.sizes[:4]:
        lines = both.lines[ahead:ahead + size]
        found.append(kernel(Table(web.prime, size, both.wide, lines)))
        ahead += size
    return Web(web.net, web.prime, tuple(table.wide for table in found) + (both.wide,), found)


def back_plainly(web):
    lines = [left_over(table) for table in web.tables]
    last = left_over(over(lines))
    found, ahead = [], 0
    for table in lines:
        columns = [line[ahead:ahead + table.tall] for line in last.lines]
        found.append(Table(web.prime, last.tall, table.tall, columns))
        ahead += table.tall
    return Web(web.net, web.prime, tuple(table.wide for table in found) + (last.tall,), found)


class StepTest(unittest.TestCase):

    def test_net(self):
        self.assertEqual(four_net(), Net(5, ((0, 4), (1, 4), (2, 4), (3, 4))))

    def test_steps_by_the_definition(self):
        draw = drawn(1301)
        for _ in range(400):
            prime = draw.choice((2, 3, 5, 97))
            sizes = tuple(draw.randrange(5) for _ in range(4)) + (draw.randrange(7),)
            web = drawn_web(draw, FOURS, prime, sizes, draw.choice((0.2, 0.6, 1)))
            self.assertEqual(step_on(web=web), on_plainly(web))
            self.assertEqual(step_back(web=web), back_plainly(web))

    def test_empty_rooms(self):
        for sizes in ((0, 0, 0, 0, 0), (3, 0, 0, 0, 0), (0, 0, 0, 0, 3), (0, 2, 0, 1, 0), (0, 0, 2, 0, 2)):
            web = bare(FOURS, 3, sizes)
            self.assertEqual(step_on(web), on_plainly(web))
            self.assertEqual(step_back(web), back_plainly(web))
        self.assertEqual(step_on(bare(FOURS, 3, (2, 0, 1, 0, 4))).sizes, (1, 3, 2, 3, 3))
        self.assertEqual(step_back(bare(FOURS, 3, (2, 0, 1, 0, 4))).sizes, (4, 4, 4, 4, 12))

    def test_middles_at_the_bound(self):
        self.assertEqual(step_on(bare(FOURS, 2, (15, 15, 15, 15, 0))).sizes, (45, 45, 45, 45, 60))
        self.assertEqual(error_of(step_on, bare(FOURS, 2, (16, 15, 15, 15, 0))), ("BadWeb", "sizes"))
        self.assertEqual(error_of(step_on, bare(FOURS, 2, (60, 60, 60, 60, 60))), ("BadWeb", "sizes"))
        self.assertEqual(step_on(bare(FOURS, 2, (60, 0, 0, 0, 60))).sizes, (0, 60, 60, 60, 60))
        # All lines leave the middle whole, and this is there four times over, less once.
        self.assertEqual(step_back(bare(FOURS, 2, (0, 0, 0, 0, 20))).sizes, (20, 20, 20, 20, 60))
        self.assertEqual(error_of(step_back, bare(FOURS, 2, (0, 0, 0, 0, 21))), ("BadWeb", "sizes"))
        self.assertEqual(error_of(step_back, bare(FOURS, 2, (60, 60, 60, 60, 60))), ("BadWeb", "sizes"))

    def test_no_fours(self):
        for wrong in NO_FOURS:
            for work in (step_on, step_back):
                self.assertEqual(error_of(work, wrong), ("NotFour",))


class NameTest(unittest.TestCase):

    def test_early_and_late(self):
        for prime in (2, 97):
            for i in range(5):
                lines = [1 if line == i else 0 for line in range(4)]
                early = Web(FOURS, prime, (*lines, 1), [Table(prime, 1, size, [[1] * size]) for size in lines])
                late = bare(FOURS, prime, (*lines, 0))
                if i == 4:
                    late = Web(FOURS, prime, (1,) * 5, [Table(prime, 1, 1, [[1]])] * 4)
                for k in range(12):
                    for name, web in ((("early", k, i), early), (("late", k, i), late)):
                        self.assertEqual(least_four(prime=prime, name=name), web)
                        self.assertEqual(four_sizes(prime=prime, name=name), web.sizes)
                    early, late = step_back(early), step_on(late)

    def test_knots(self):
        for i, j, s, t, u, v in ((0, 0, 0, 3, 1, 2), (1, 0, 1, 3, 0, 2), (2, 0, 2, 3, 0, 1), (0, 1, 1, 2, 0, 3),
                                 (1, 1, 0, 2, 1, 3), (2, 1, 0, 1, 2, 3)):
            for e in range(1, 13):
                c, f = (e + 1) // 2, e // 2
                web = least_four(5, ("knot", i, j, e))
                sizes = [0] * 4 + [e]
                sizes[s] = sizes[t] = c
                sizes[u] = sizes[v] = f
                self.assertEqual(web.sizes, tuple(sizes))
                self.assertEqual(four_sizes(5, ("knot", i, j, e)), tuple(sizes))
                self.assertEqual(web.tables[s], over([plain(5, c), empty(5, f, c)]))
                self.assertEqual(web.tables[u], over([empty(5, c, f), plain(5, f)]))
                for k in range(f):
                    column = [line[k] for line in web.tables[v].lines]
                    self.assertEqual([at for at, number in enumerate(column) if number], [k, c + k])
                for k in range(c):
                    column = [line[k] for line in web.tables[t].lines]
                    self.assertEqual([at for at, number in enumerate(column) if number], [k] + [c + k - 1] * (k > 0))
                self.assertTrue(all(number in (0, 1) for table in web.tables for line in table.lines
                                    for number in line))

    def test_turns(self):
        for prime in BARE:
            for name in turn_names(prime):
                size = (len(name[1]) - 1) * name[2]
                unit, none = plain(prime, size), empty(prime, size, size)
                last = companion(prime, poly_power(prime, name[1], name[2]))
                told = [over(pair) for pair in ((unit, none), (none, unit), (unit, unit), (unit, last))]
                self.assertEqual(least_four(prime, name), Web(FOURS, prime, (size,) * 4 + (2 * size,), told))
                self.assertEqual(four_sizes(prime, name), (size,) * 4 + (2 * size,))

    def test_they_are_least(self):
        for name in all_names(2, 2, 3, 2):
            web = least_four(2, name)
            if 2 ** count_maps(web, web) <= 600:
                self.assertIs(is_least(web), True, name)

    def test_names_at_their_bounds(self):
        for prime in BARE:
            for name in all_names(prime):
                self.assertIs(is_four_name(prime=prime, thing=name), True)
        for prime, thing in ((2, ("early", 12, 0)), (2, ("early", -1, 0)), (2, ("early", 0, 5)), (2, ("late", 0, -1)),
                             (2, ("late", 12, 4)), (2, ("knot", 3, 0, 1)), (2, ("knot", -1, 0, 1)),
                             (2, ("knot", 0, 2, 1)), (2, ("knot", 0, 0, 0)), (2, ("knot", 0, 0, 13)),
                             (2, ("turn", (0, 1), 1)), (2, ("turn", (1, 1), 1)), (3, ("turn", (2, 1), 1)),
                             (3, ("turn", (0, 1), 2)), (97, ("turn", (96, 1), 1)), (2, ("turn", (1, 1, 1), 4)),
                             (2, ("turn", (1, 1, 1), 0)), (3, ("turn", (1, 1), 7)), (2, ("turn", (1, 0, 1), 1)),
                             (3, ("turn", (1, 2), 1)), (2, ("turn", (1,), 1)), (2, ("turn", (), 1)),
                             (2, ("up", 1, 1)), (2, ("early", 1)), (2, ("early", 1, 1, 1)), (2, ("knot", 0, 0)),
                             (5, ("turn", (1, 1, 1, 1, 1, 1, 1, 1), 1)), (2, ("late", (1, 1, 1), 1)), (2, ())):
            self.assertIs(is_four_name(prime, thing), False, thing)
            self.assertEqual(error_of(least_four, prime, thing), ("BadLeast",))
            self.assertEqual(error_of(four_sizes, prime, thing), ("BadLeast",))
        self.assertIs(is_four_name(3, ("turn", (1, 1), 6)), True)
        self.assertIs(is_four_name(2, ("turn", (1, 1, 1), 3)), True)
        for name in (("early", 1, 1), ("late", 0, 1), ("knot", 1, 1, 1), ("turn", (1, 1, 1), 1)):
            for thing in of_other_kinds(name):
                self.assertIs(is_four_name(2, thing), False, thing)

    def test_errors_in_their_order(self):
        for prime in WRONG_PRIMES:
            for work in (least_four, four_sizes):
                for name in (None, ("early", 12, 0), ["early", 1, 0]):
                    check_order(self, work, {"prime": 2, "name": ("early", 1, 0)}, [
                        ("prime", prime, ("BadPrime",)), ("name", name, ("BadLeast",))])
            self.assertEqual(error_of(is_four_name, prime, None), ("BadPrime",))


class KindTest(unittest.TestCase):

    def test_sums(self):
        draw = drawn(1302)
        for prime in BARE:
            for _ in range(15):
                kind = drawn_names(draw, prime, 40)
                self.assertIs(are_fours(prime=prime, thing=kind), True)
                web = sum_of_fours(prime=prime, kind=kind)
                told = [least_four(prime, name) for name in kind]
                self.assertEqual(web, sum_of(told) if kind else bare(FOURS, prime, (0,) * 5))
        self.assertEqual(sum_of_fours(7, ()), bare(FOURS, 7, (0,) * 5))
        self.assertIs(are_fours(7, ()), True)

    def test_of_any_value(self):
        kind = (("early", 1, 1), ("knot", 1, 0, 2), ("late", 0, 1), ("late", 0, 1), ("turn", (1, 1, 1), 1))
        self.assertIs(are_fours(2, kind), True)
        for thing in of_other_kinds(kind):
            self.assertIs(are_fours(2, thing), False)
        for thing in (kind[::-1], kind[1:] + kind[:1], kind + (("turn", (1, 1), 1),), (("late", 0, 0), ("early", 0, 0))):
            self.assertIs(are_fours(2, thing), False)
            self.assertEqual(error_of(sum_of_fours, 2, thing), ("BadKind",))
        self.assertIs(are_fours(3, (("turn", (1, 1, 1), 1),)), False)

    def test_errors_in_their_order(self):
        great = (("early", 0, 4),) * 61
        self.assertEqual(sum_of_fours(2, great[1:]).sizes, (0, 0, 0, 0, 60))
        self.assertIs(are_fours(2, great), True)
        for prime in WRONG_PRIMES:
            for kind in (None, list(great[:1]), {}, (("early", 0, 5),), (("early", 1, 0), ("early", 0, 0))):
                check_order(self, sum_of_fours, {"prime": 2, "kind": ()}, [
                    ("prime", prime, ("BadPrime",)), ("kind", kind, ("BadKind",))])
            self.assertEqual(error_of(sum_of_fours, prime, great), ("BadPrime",))
            self.assertEqual(error_of(are_fours, prime, great), ("BadPrime",))
        self.assertEqual(error_of(sum_of_fours, 2, great), ("BadWeb", "sizes"))
        self.assertEqual(error_of(sum_of_fours, 2, (("late", 0, 2),) * 61), ("BadWeb", "sizes"))
        self.assertEqual(error_of(sum_of_fours, 2, great + (("early", 0, 5),)), ("BadKind",))


if __name__ == "__main__":
    unittest.main()
