"""Point [80]: joinings, slacks, their twists, and what is the same up to slack."""

import unittest

from boughwebs.joinings import (count_joinings, is_joining, joinings, no_joining, plus_joining, scaled_joining,
                                tidy_joining, twist)
from boughwebs.kinds import joinings_of_kinds
from boughwebs.maps import count_maps, is_map
from boughwebs.roots import pair_form
from boughwebs.solving import rank, tidy
from boughwebs.splits import kind_of
from boughwebs.tables import Table, empty, minus, plain, plus, scaled, times
from boughwebs.webs import Web, bare
from tests.drawn import (CLASH, NETS, ONE, PAIR, RING, SQUARE, STAR, STEP, STRAIGHT, TRIPLE, check_order, drawn,
                         drawn_joining, drawn_net, drawn_sizes, drawn_slack, drawn_web, error_of, good_nets,
                         of_other_kinds, with_one_otherwise)

SMALL = [ONE, STEP, STRAIGHT, CLASH, STAR, PAIR, TRIPLE, RING, SQUARE]


def numbers_of(joining):
    return [number for table in joining for line in table.lines for number in line]


def unit_slacks(one, other):
    """All slacks with a single 1."""
    nothing = tuple(empty(one.prime, b, a) for a, b in zip(one.sizes, other.sizes))
    return list(with_one_otherwise(nothing))


def twists_table(one, other):
    """The table whose lines are the numbers of the twists of all unit slacks."""
    lines = [numbers_of(twist(one, other, slack)) for slack in unit_slacks(one, other)]
    wide = len(numbers_of(no_joining(one, other)))
    return Table(one.prime, len(lines), wide, lines)


def bound_numbers(one, other):
    table = tidy(twists_table(one, other))
    return [[k for k, number in enumerate(line) if number][0] for line in table.lines if any(line)]


def drawn_two(draw, net, most=2):
    """Two webs of the net with few enough numbers for a Table of all twists."""
    while True:
        prime = draw.choice((2, 3, 5))
        one, other = [drawn_web(draw, net, prime, drawn_sizes(draw, net, most)) for _ in range(2)]
        if len(unit_slacks(one, other)) <= 60 and len(numbers_of(no_joining(one, other))) <= 60:
            return one, other


def all_nets(seed):
    draw = drawn(seed)
    return SMALL + [drawn_net(draw, draw.randrange(1, 5), draw.randrange(6)) for _ in range(12)]


class TwistTest(unittest.TestCase):

    def test_twist_number_by_number(self):
        draw = drawn(801)
        for net in all_nets(802):
            one, other = drawn_two(draw, net)
            slack = drawn_slack(draw, one, other)
            found = twist(one=one, other=other, slack=slack)
            self.assertIs(type(found), tuple)
            for at, (tail, head) in enumerate(net.arrows):
                there = times(slack[head], one.tables[at])
                back = times(other.tables[at], slack[tail])
                self.assertEqual(found[at], minus(there, back))
            # The slacks with twist 0 are the maps.
            self.assertIs(all(not any(line) for table in found for line in table.lines), is_map(one, other, slack))

    def test_by_hand(self):
        one, other = Web(STEP, 5, (1, 1), [Table(5, 1, 1, [[2]])]), Web(STEP, 5, (1, 1), [Table(5, 1, 1, [[3]])])
        slack = (Table(5, 1, 1, [[1]]), Table(5, 1, 1, [[4]]))
        self.assertEqual(twist(one, other, slack), (Table(5, 1, 1, [[0]]),))
        slack = (Table(5, 1, 1, [[1]]), Table(5, 1, 1, [[1]]))
        self.assertEqual(twist(one, other, slack), (Table(5, 1, 1, [[4]]),))

    def test_what_is_no_slack(self):
        one, other = bare(STEP, 3, (1, 2)), bare(STEP, 3, (2, 1))
        slack = (empty(3, 2, 1), empty(3, 1, 2))
        for thing in of_other_kinds(slack):
            self.assertEqual(error_of(twist, one, other, thing), ("BadMaps",))
        self.assertEqual(error_of(twist, one, other, slack[::-1]), ("BadMaps",))
        self.assertEqual(error_of(twist, one, other, slack[:1]), ("BadMaps",))
        self.assertEqual(twist(one, other, slack), (empty(3, 1, 1),))


class JoiningTest(unittest.TestCase):

    def test_is_joining(self):
        draw = drawn(803)
        for net in all_nets(804):
            one, other = drawn_two(draw, net)
            joining = drawn_joining(draw, one, other)
            self.assertIs(is_joining(one=one, other=other, thing=joining), True)
            for thing in of_other_kinds(joining):
                self.assertIs(is_joining(one, other, thing), False)
            self.assertIs(is_joining(one, other, joining + joining), not net.arrows)
        one, other = bare(STEP, 3, (2, 0)), bare(STEP, 3, (0, 1))
        self.assertIs(is_joining(one, other, (empty(3, 1, 2),)), True)
        for table in (empty(3, 2, 1), empty(5, 1, 2), empty(3, 1, 1), empty(3, 2, 2)):
            self.assertIs(is_joining(one, other, (table,)), False)

    def test_sums(self):
        draw = drawn(805)
        for net in all_nets(806):
            one, other = drawn_two(draw, net)
            first, second = drawn_joining(draw, one, other), drawn_joining(draw, one, other)
            nothing = no_joining(one=one, other=other)
            self.assertIs(is_joining(one, other, nothing), True)
            self.assertFalse(any(numbers_of(nothing)))
            self.assertEqual(plus_joining(one=one, other=other, first=first, second=second),
                             tuple(plus(a, b) for a, b in zip(first, second)))
            for number in (0, 1, -1, 7, 10**20):
                self.assertEqual(scaled_joining(one=one, other=other, joining=first, number=number),
                                 tuple(scaled(table, number) for table in first))
            self.assertEqual(plus_joining(one, other, first, scaled_joining(one, other, first, -1)), nothing)

    def test_errors_in_their_order(self):
        good = {"one": bare(STEP, 3, (1, 1)), "other": bare(STEP, 3, (1, 1))}
        webs = [("one", None, ("BadWeb", None)), ("other", (), ("BadWeb", None)),
                ("other", bare(STEP, 5, (1, 1)), ("OtherNet",))]
        joining = (plain(3, 1),)
        for work in (no_joining, joinings, count_joinings):
            check_order(self, work, good, webs)
        check_order(self, is_joining, {**good, "thing": None}, webs)
        check_order(self, twist, {**good, "slack": (plain(3, 1),) * 2}, webs + [("slack", None, ("BadMaps",))])
        check_order(self, tidy_joining, {**good, "joining": joining}, webs + [("joining", [], ("BadJoining",))])
        check_order(self, plus_joining, {**good, "first": joining, "second": joining},
                    webs + [("first", list(joining), ("BadJoining",)), ("second", 3, ("BadJoining",))])
        for number in (None, True, 1.0, "1"):
            check_order(self, scaled_joining, {**good, "joining": joining, "number": 2},
                        webs + [("joining", (plain(5, 1),), ("BadJoining",)), ("number", number,
                                                                               ("BadNumber", "number"))])
        self.assertEqual(error_of(no_joining, bare(STEP, 3, (1, 1)), bare(PAIR, 3, (1, 1))), ("OtherNet",))


class UpToSlackTest(unittest.TestCase):

    def test_tidy(self):
        draw = drawn(807)
        for net in all_nets(808):
            one, other = drawn_two(draw, net)
            bound = bound_numbers(one, other)
            twists = twists_table(one, other)
            joining = drawn_joining(draw, one, other)
            found = tidy_joining(one=one, other=other, joining=joining)
            self.assertIs(is_joining(one, other, found), True)
            numbers = numbers_of(found)
            self.assertTrue(all(numbers[k] == 0 for k in bound))
            rest = [a - b for a, b in zip(numbers_of(joining), numbers)]
            if twists.tall < 60:
                more = Table(one.prime, twists.tall + 1, twists.wide, list(twists.lines) + [rest])
                self.assertEqual(rank(more), rank(twists))
            # What is the same up to slack has one tidy joining.
            slack = drawn_slack(draw, one, other)
            self.assertEqual(tidy_joining(one, other, plus_joining(one, other, joining, twist(one, other, slack))),
                             found)
            self.assertEqual(tidy_joining(one, other, found), found)
            self.assertEqual(tidy_joining(one, other, twist(one, other, slack)), no_joining(one, other))

    def test_joinings(self):
        draw = drawn(809)
        for net in all_nets(810):
            one, other = drawn_two(draw, net)
            bound = bound_numbers(one, other)
            many = len(numbers_of(no_joining(one, other)))
            found = joinings(one=one, other=other)
            self.assertIs(type(found), list)
            told = [[1 if k == at else 0 for k in range(many)] for at in range(many) if at not in bound]
            self.assertEqual([numbers_of(joining) for joining in found], told)
            for joining in found:
                self.assertIs(is_joining(one, other, joining), True)
                self.assertEqual(tidy_joining(one, other, joining), joining)
            self.assertEqual(count_joinings(one=one, other=other), len(found))

    def test_how_many(self):
        draw = drawn(811)
        for net in NETS + good_nets(812):
            for _ in range(3):
                one, other = drawn_two(draw, net, 2 if net.places < 6 else 1)
                told = count_joinings(one, other)
                self.assertEqual(told, count_maps(one, other) - pair_form(net, one.sizes, other.sizes))
                if net in good_nets(812):
                    self.assertEqual(told, joinings_of_kinds(net, kind_of(one), kind_of(other)))

    def test_example(self):
        # One joining of (1, 0) to (0, 1) along an arrow, two along two, none the other way.
        for net, many in ((STEP, 1), (PAIR, 2), (TRIPLE, 3)):
            one, other = bare(net, 3, (1, 0)), bare(net, 3, (0, 1))
            self.assertEqual((count_joinings(one, other), count_joinings(other, one)), (many, 0))
        whole = Web(STEP, 3, (1, 1), [plain(3, 1)])
        self.assertEqual(joinings(whole, whole), [])

    def test_300_numbers(self):
        # First joinings have many numbers, then slacks.
        for one, other, more in (((20, 0), (0, 15), (0, 16)), ((0, 20), (0, 15), (0, 16)), ((7, 0), (0, 42), (0, 43)),
                                 ((20, 1), (15, 0), (15, 1)), ((0, 7), (0, 42), (0, 43))):
            one, other, more = [bare(STEP, 2, sizes) for sizes in (one, other, more)]
            for work in (joinings, count_joinings):
                self.assertIsNone(error_of(work, one, other))
                self.assertEqual(error_of(work, one, more), ("TooMany", 300))
            self.assertIsNone(error_of(tidy_joining, one, other, no_joining(one, other)))
            self.assertEqual(error_of(tidy_joining, one, more, no_joining(one, more)), ("TooMany", 300))
            self.assertEqual(error_of(tidy_joining, one, more, no_joining(one, other)), ("BadJoining",))
        # What is not marked works on.
        one, other = bare(STEP, 2, (60, 60)), bare(STEP, 2, (60, 60))
        self.assertEqual(twist(one, other, (empty(2, 60, 60),) * 2), no_joining(one, other))
        self.assertIs(is_joining(one, other, plus_joining(one, other, *[no_joining(one, other)] * 2)), True)


if __name__ == "__main__":
    unittest.main()
