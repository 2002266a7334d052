"""Point [81]: probes, their values, and what shows joinings to be the same up to slack or not."""

import unittest

from boughwebs.joinings import (count_joinings, joinings, no_joining, plus_joining, scaled_joining, tidy_joining,
                                twist)
from boughwebs.probes import compared, is_compared, is_probe, probe_value, probes
from boughwebs.solving import kernel, rank
from boughwebs.tables import Table, empty, minus, plain, plus, times
from boughwebs.webs import Web, bare
from tests.drawn import (PAIR, RING, STEP, check_order, drawn, drawn_joining, drawn_slack, error_of, of_other_kinds,
                         with_one_otherwise)
from tests.test_joinings import all_nets, drawn_two, numbers_of


def is_probe_plainly(one, other, thing):
    """Whether Tables of the right sizes are a probe."""
    for place in range(one.net.places):
        left = right = empty(one.prime, one.sizes[place], other.sizes[place])
        for at, (tail, head) in enumerate(one.net.arrows):
            if head == place:
                left = plus(left, times(one.tables[at], thing[at]))
            if tail == place:
                right = plus(right, times(thing[at], other.tables[at]))
        if left != right:
            return False
    return True


def no_probe(one, other):
    return tuple(empty(one.prime, one.sizes[tail], other.sizes[head]) for tail, head in one.net.arrows)


def probes_plainly(one, other):
    """The probes told by kernel of the table of all equations, place by place, line by line."""
    columns = []
    for unit in with_one_otherwise(no_probe(one, other)):
        column = []
        for place in range(one.net.places):
            told = empty(one.prime, one.sizes[place], other.sizes[place])
            for at, (tail, head) in enumerate(one.net.arrows):
                if head == place:
                    told = plus(told, times(one.tables[at], unit[at]))
                if tail == place:
                    told = minus(told, times(unit[at], other.tables[at]))
            column += [number for line in told.lines for number in line]
        columns.append(column)
    tall = sum(a * b for a, b in zip(one.sizes, other.sizes))
    lines = [[column[k] for column in columns] for k in range(tall)]
    return kernel(Table(one.prime, tall, len(columns), lines))


def value_plainly(one, probe, joining):
    found = 0
    for first, second in zip(probe, joining):
        product = times(first, second)
        found += sum(product.lines[k][k] for k in range(product.tall))
    return found % one.prime


class ProbeTest(unittest.TestCase):

    def test_probes(self):
        draw = drawn(821)
        for net in all_nets(822):
            for _ in range(2):
                one, other = drawn_two(draw, net)
                found = probes(one=one, other=other)
                self.assertIs(type(found), list)
                told = probes_plainly(one, other)
                self.assertEqual([tuple(numbers_of(probe)) for probe in found],
                                 [tuple(line[k] for line in told.lines) for k in range(told.wide)])
                self.assertEqual(len(found), count_joinings(one, other))
                for probe in found:
                    self.assertIs(is_probe(one=one, other=other, thing=probe), True)
                    for thing in list(with_one_otherwise(probe))[:10]:
                        self.assertIs(is_probe(one, other, thing), is_probe_plainly(one, other, thing))

    def test_is_probe_of_any_value(self):
        draw = drawn(823)
        for net in all_nets(824):
            one, other = drawn_two(draw, net)
            nothing = no_probe(one, other)
            self.assertIs(is_probe(one, other, nothing), True)
            for thing in of_other_kinds(nothing):
                self.assertIs(is_probe(one, other, thing), False)
        one, other = bare(STEP, 3, (2, 0)), bare(STEP, 3, (0, 1))
        self.assertIs(is_probe(one, other, (empty(3, 1, 2),)), False)
        self.assertIs(is_probe(one, other, (Table(3, 2, 1, [[1], [2]]),)), True)

    def test_values(self):
        draw = drawn(825)
        for net in all_nets(826):
            one, other = drawn_two(draw, net)
            joining = drawn_joining(draw, one, other)
            slack = drawn_slack(draw, one, other)
            for probe in probes(one, other):
                value = probe_value(one=one, other=other, probe=probe, joining=joining)
                self.assertEqual(value, value_plainly(one, probe, joining))
                self.assertIn(value, range(one.prime))
                self.assertEqual(probe_value(one, other, probe, twist(one, other, slack)), 0)
                self.assertEqual(probe_value(one, other, probe, no_joining(one, other)), 0)

    def test_values_tell_all_joinings_apart(self):
        draw = drawn(827)
        for net in all_nets(828):
            one, other = drawn_two(draw, net)
            lines = [[probe_value(one, other, probe, joining) for joining in joinings(one, other)]
                     for probe in probes(one, other)]
            self.assertEqual(rank(Table(one.prime, len(lines), len(lines), lines)), len(lines))


class ComparedTest(unittest.TestCase):

    def test_compared(self):
        draw = drawn(831)
        seen = {"slack": 0, "probe": 0}
        for net in all_nets(832):
            for same in (True, False):
                one, other = drawn_two(draw, net)
                first, second = [drawn_joining(draw, one, other) for _ in range(2)]
                if same:
                    second = plus_joining(one, other, first, twist(one, other, drawn_slack(draw, one, other)))
                found = compared(one=one, other=other, first=first, second=second)
                self.assertIs(type(found), tuple)
                is_same = tidy_joining(one, other, first) == tidy_joining(one, other, second)
                self.assertTrue(is_same or not same)
                self.assertEqual(found[0], "slack" if is_same else "probe")
                self.assertIs(is_compared(one=one, other=other, first=first, second=second, thing=found), True)
                self.assertEqual(compared(one, other, first, second), found)
                rest = plus_joining(one, other, first, scaled_joining(one, other, second, -1))
                for thing in of_other_kinds(found):
                    self.assertIs(is_compared(one, other, first, second, thing), False)
                for bent in list(with_one_otherwise(found[1]))[:20]:
                    told = is_compared(one, other, first, second, (found[0], bent))
                    if is_same:
                        self.assertIs(told, twist(one, other, bent) == rest)
                    else:
                        self.assertIs(told, is_probe_plainly(one, other, bent)
                                      and value_plainly(one, bent, rest) != 0)
                nothing = tuple(empty(one.prime, b, a) for a, b in zip(one.sizes, other.sizes))
                self.assertIs(is_compared(one, other, first, second, ("slack", nothing)), first == second)
                self.assertIs(is_compared(one, other, first, second, ("probe", no_probe(one, other))), False)
                seen[found[0]] += 1
        self.assertGreater(min(seen.values()), 3)

    def test_by_hand(self):
        one, other = bare(STEP, 5, (1, 0)), bare(STEP, 5, (0, 1))
        first, second = (Table(5, 1, 1, [[2]]),), (Table(5, 1, 1, [[4]]),)
        self.assertEqual(compared(one, other, first, second), ("probe", (plain(5, 1),)))
        self.assertEqual(compared(one, other, first, first), ("slack", (empty(5, 0, 1), empty(5, 1, 0))))
        whole = Web(STEP, 5, (1, 1), [plain(5, 1)])
        name, slack = compared(whole, whole, first, second)
        self.assertEqual((name, twist(whole, whole, slack)), ("slack", (Table(5, 1, 1, [[3]]),)))


class ErrorsTest(unittest.TestCase):

    def test_errors_in_their_order(self):
        one = bare(STEP, 3, (1, 1))
        good = {"one": one, "other": one}
        webs = [("one", STEP, ("BadWeb", None)), ("other", None, ("BadWeb", None)),
                ("other", bare(PAIR, 3, (1, 1)), ("OtherNet",))]
        joining = (plain(3, 1),)
        check_order(self, probes, good, webs)
        check_order(self, is_probe, {**good, "thing": None}, webs)
        check_order(self, probe_value, {**good, "probe": joining, "joining": joining},
                    webs + [("probe", list(joining), ("BadProbe",)), ("joining", (plain(3, 2),), ("BadJoining",))])
        both = webs + [("first", (plain(5, 1),), ("BadJoining",)), ("second", (), ("BadJoining",))]
        check_order(self, compared, {**good, "first": joining, "second": joining}, both)
        check_order(self, is_compared, {**good, "first": joining, "second": joining, "thing": 3}, both)
        whole = Web(STEP, 3, (1, 1), [plain(3, 1)])
        self.assertEqual(error_of(probe_value, whole, whole, joining, joining), ("BadProbe",))

    def test_300_numbers(self):
        for one, other, more in (((20, 0), (0, 15), (0, 16)), ((0, 20), (0, 15), (0, 16)), ((7, 0), (0, 42), (0, 43)),
                                 ((0, 7), (0, 42), (0, 43))):
            one, other, more = [bare(STEP, 2, sizes) for sizes in (one, other, more)]
            first, second = no_joining(one, other), no_joining(one, more)
            self.assertIsNone(error_of(probes, one, other))
            self.assertIsNone(error_of(compared, one, other, first, first))
            self.assertEqual(error_of(probes, one, more), ("TooMany", 300))
            self.assertEqual(error_of(compared, one, more, second, second), ("TooMany", 300))
            self.assertEqual(error_of(compared, one, more, second, first), ("BadJoining",))
            slack = tuple(empty(2, b, a) for a, b in zip(one.sizes, more.sizes))
            self.assertIs(is_compared(one, more, second, second, ("slack", slack)), True)

    def test_ways_round(self):
        # On a ring of three places with the same size everywhere there is one way round that is no twist.
        one = Web(RING, 3, (1, 1, 1), [plain(3, 1)] * 3)
        self.assertEqual(len(probes(one, one)), 1)
        unit = (empty(3, 1, 1), empty(3, 1, 1), plain(3, 1))
        self.assertEqual(compared(one, one, unit, no_joining(one, one))[0], "probe")
        self.assertEqual(compared(one, one, unit[::-1], unit[1:] + unit[:1])[0], "slack")


if __name__ == "__main__":
    unittest.main()
