"""Points [82], [83], [84]: middle webs, layered webs, maps lifted and spread, and the kinds that come of joinings."""

import unittest

from boughwebs.errors import TooMany
from boughwebs.joinings import (count_joinings, joinings, no_joining, plus_joining, scaled_joining, tidy_joining,
                                twist)
from boughwebs.kinds import kinds_of, sum_kind
from boughwebs.likeness import alike
from boughwebs.maps import (behind, count_maps, image_web, is_alike, is_map, kernel_web, maps, rest_web)
from boughwebs.middles import (count_lost, is_joining_of, is_lifted, is_spread, joining_of, lifted, middle_kinds,
                               middle_maps, middle_web, pulled, pushed, spread)
from boughwebs.parts import all_parts, part_web, rest_of_part
from boughwebs.probes import is_probe, probe_value, probes
from boughwebs.ranks import count_turns
from boughwebs.solving import inverse, rank
from boughwebs.splits import kind_of, whole_of
from boughwebs.tables import Table, beside, empty, over, plain, scaled, times
from boughwebs.webs import Web, bare, changed, sum_of
from tests.drawn import (CLASH, GOOD, ONE, PAIR, RING, SQUARE, STAR, STEP, STRAIGHT, check_order, drawn,
                         drawn_joining, drawn_map, drawn_sizes, drawn_slack, drawn_web, drawn_whole, error_of,
                         of_other_kinds, with_one_otherwise)
from tests.test_joinings import all_nets, drawn_two

PLAIN = (plain(3, 1), plain(3, 1))


def drawn_three(draw, net, most=2):
    one, other = drawn_two(draw, net, most)
    return one, other, drawn_web(draw, net, one.prime, drawn_sizes(draw, net, most))


def blocks(table, top, left):
    """The four corners of a table, cut behind so many lines and columns."""
    return [[[line[k] for k in columns] for line in lines] for lines in (table.lines[:top], table.lines[top:])
            for columns in (range(left), range(left, table.wide))]


class MiddleTest(unittest.TestCase):

    def test_table_by_table(self):
        draw = drawn(841)
        for net in all_nets(842):
            one, other = drawn_two(draw, net)
            joining = drawn_joining(draw, one, other)
            web = middle_web(one=one, other=other, joining=joining)
            self.assertEqual((web.net, web.prime), (net, one.prime))
            self.assertEqual(web.sizes, tuple(a + b for a, b in zip(one.sizes, other.sizes)))
            for at, (tail, head) in enumerate(net.arrows):
                first, second, third, fourth = blocks(web.tables[at], other.sizes[head], other.sizes[tail])
                self.assertEqual([tuple(line) for line in first], list(other.tables[at].lines))
                self.assertEqual([tuple(line) for line in second], list(joining[at].lines))
                self.assertFalse(any(any(line) for line in third))
                self.assertEqual([tuple(line) for line in fourth], list(one.tables[at].lines))
            self.assertEqual(middle_web(one, other, no_joining(one, other)), sum_of([other, one]))

    def test_middle_maps(self):
        draw = drawn(843)
        for net in all_nets(844):
            one, other = drawn_two(draw, net)
            joining = drawn_joining(draw, one, other)
            into, onto = middle_maps(one=one, other=other, joining=joining)
            web = middle_web(one, other, joining)
            self.assertTrue(is_map(other, web, into) and is_map(web, one, onto))
            for place, (a, b) in enumerate(zip(one.sizes, other.sizes)):
                self.assertEqual(into[place].lines, tuple(tuple(int(k == at) for k in range(b)) for at in range(a + b)))
                self.assertEqual(onto[place].lines,
                                 tuple(tuple(int(k == at + b) for k in range(a + b)) for at in range(a)))

    def test_same_up_to_slack(self):
        # The middle web is alike to the sum just for joinings that are the same as none.
        draw = drawn(845)
        seen = {True: 0, False: 0}
        for net in all_nets(846):
            one, other = drawn_two(draw, net)
            for joining in (drawn_joining(draw, one, other), twist(one, other, drawn_slack(draw, one, other))):
                web, both = middle_web(one, other, joining), sum_of([other, one])
                same = tidy_joining(one, other, joining) == no_joining(one, other)
                self.assertIs(count_maps(web, web) == count_maps(both, both), same)
                self.assertLessEqual(count_maps(web, web), count_maps(both, both))
                seen[same] += 1
        self.assertGreater(min(seen.values()), 5)

    def test_errors_in_their_order(self):
        one = bare(STEP, 3, (31, 1))
        good = {"one": bare(STEP, 3, (29, 1)), "other": one, "joining": (empty(3, 1, 29),)}
        steps = [("one", None, ("BadWeb", None)), ("other", 3, ("BadWeb", None)),
                 ("other", bare(STEP, 5, (1, 1)), ("OtherNet",)), ("joining", [empty(3, 1, 29)], ("BadJoining",))]
        for work in (middle_web, middle_maps):
            check_order(self, work, good, steps)
            self.assertIsNone(error_of(work, one, bare(STEP, 3, (29, 1)), (empty(3, 1, 31),)))
            self.assertEqual(error_of(work, one, bare(STEP, 3, (30, 1)), (empty(3, 1, 31),)), ("BadWeb", "sizes"))
            self.assertEqual(error_of(work, one, bare(STEP, 3, (30, 1)), (empty(3, 1, 30),)), ("BadJoining",))
            self.assertEqual(error_of(work, bare(PAIR, 3, (1, 1)), one, ()), ("OtherNet",))


class LayeredTest(unittest.TestCase):

    def layered(self, draw, net):
        """One, other and a web in drawn coordinates that is layered, with its maps and the joining behind it."""
        one, other = drawn_two(draw, net)
        joining = drawn_joining(draw, one, other)
        into, onto = middle_maps(one, other, joining)
        middle = middle_web(one, other, joining)
        way = tuple(drawn_whole(draw, one.prime, size) for size in middle.sizes)
        web = changed(middle, list(way))
        return one, other, joining, web, behind(into, way), behind(tuple(inverse(table) for table in way), onto)

    def test_joining_of(self):
        draw = drawn(847)
        for net in all_nets(848):
            one, other, joining, web, into, onto = self.layered(draw, net)
            found = joining_of(one=one, other=other, web=web, into=into, onto=onto)
            self.assertIs(type(found), tuple)
            told, way = found
            self.assertIs(is_joining_of(one=one, other=other, web=web, into=into, onto=onto, thing=found), True)
            self.assertTrue(is_alike(middle_web(one, other, told), web, way))
            ends = middle_maps(one, other, told)
            self.assertEqual((behind(ends[0], way), behind(way, onto)), (into, ends[1]))
            self.assertEqual(tidy_joining(one, other, told), tidy_joining(one, other, joining))
            self.assertEqual(joining_of(one, other, web, into, onto), found)
            for thing in of_other_kinds(found):
                self.assertIs(is_joining_of(one, other, web, into, onto, thing), False)
            for thing in [(bent, way) for bent in with_one_otherwise(told)]:
                self.assertIs(is_joining_of(one, other, web, into, onto, thing), False)
            for bent in list(with_one_otherwise(way))[:20]:
                right = (is_alike(middle_web(one, other, told), web, bent) and behind(ends[0], bent) == into
                         and behind(bent, onto) == ends[1])
                self.assertIs(is_joining_of(one, other, web, into, onto, (told, bent)), right)

    def test_other_joinings_that_do(self):
        # A slack more in the joining is taken back by the way.
        draw = drawn(849)
        for net in (STEP, CLASH, PAIR, RING):
            one, other, joining, web, into, onto = self.layered(draw, net)
            told, way = joining_of(one, other, web, into, onto)
            slack = drawn_slack(draw, one, other)
            less = plus_joining(one, other, told, scaled_joining(one, other, twist(one, other, slack), -1))
            shears = [over([beside([plain(one.prime, b), some]), beside([empty(one.prime, a, b), plain(one.prime, a)])])
                      for some, a, b in zip(slack, one.sizes, other.sizes)]
            sheared = tuple(times(table, shear) for table, shear in zip(way, shears))
            self.assertIs(is_joining_of(one, other, web, into, onto, (less, sheared)), True)
            self.assertIs(is_joining_of(one, other, web, into, onto, (less, way)), less == told)
            other_joining = plus_joining(one, other, told, (joinings(one, other) or [no_joining(one, other)])[0])
            if joinings(one, other):
                self.assertIs(is_joining_of(one, other, web, into, onto, (other_joining, way)), False)

    def test_kernel_and_image_layer(self):
        draw = drawn(850)
        for net in all_nets(851):
            web, goal = drawn_two(draw, net)
            mapping = drawn_map(draw, web, goal)
            other, into = kernel_web(web, goal, mapping)
            one, through = image_web(web, goal, mapping)
            onto = rest_web(other, web, into)
            found = joining_of(onto[0], other, web, into, onto[1])
            self.assertIs(is_joining_of(onto[0], other, web, into, onto[1], found), True)
            self.assertEqual(one.sizes, onto[0].sizes)

    def test_errors_in_their_order(self):
        web = Web(STEP, 3, (1, 1), [plain(3, 1)])
        one, other = bare(STEP, 3, (1, 0)), bare(STEP, 3, (0, 1))
        into, onto = (empty(3, 1, 0), plain(3, 1)), (plain(3, 1), empty(3, 0, 1))
        good = {"one": one, "other": other, "web": web, "into": into, "onto": onto}
        steps = [("one", None, ("BadWeb", None)), ("other", 3, ("BadWeb", None)), ("web", STEP, ("BadWeb", None)),
                 ("web", bare(PAIR, 3, (1, 1)), ("OtherNet",)), ("into", list(into), ("BadMaps",)),
                 ("onto", None, ("BadMaps",))]
        check_order(self, joining_of, good, steps)
        check_order(self, is_joining_of, {**good, "thing": None}, steps)
        self.assertEqual(joining_of(**good), ((plain(3, 1),), PLAIN))
        wrong = {"into": (empty(3, 1, 0), empty(3, 1, 1)), "onto": (empty(3, 1, 1), empty(3, 0, 1))}
        for key, thing in wrong.items():
            for work in (joining_of, lambda **told: is_joining_of(thing=None, **told)):
                self.assertEqual(error_of(work, **{**good, key: thing}), ("NotSo",))
        # Sizes that do not sum up, and maps one behind the other that are not 0.
        nothing, line = bare(STEP, 3, (0, 0)), bare(STEP, 3, (1, 0))
        told = (line, nothing, bare(STEP, 3, (2, 0)), (empty(3, 2, 0), empty(3, 0, 0)),
                (Table(3, 1, 2, [[1, 0]]), empty(3, 0, 0)))
        self.assertEqual(error_of(joining_of, *told), ("NotSo",))
        told = (line, line, bare(STEP, 3, (2, 0)), (Table(3, 2, 1, [[1], [0]]), empty(3, 0, 0)),
                (Table(3, 1, 2, [[1, 0]]), empty(3, 0, 0)))
        self.assertEqual(error_of(joining_of, *told), ("NotSo",))
        self.assertEqual(error_of(joining_of, other, one, web, onto[:1] + (empty(3, 1, 0),), into), ("BadMaps",))


class PulledTest(unittest.TestCase):

    def test_by_products(self):
        draw = drawn(853)
        for net in all_nets(854):
            one, other, web = drawn_three(draw, net)
            joining = drawn_joining(draw, one, other)
            there, on = drawn_map(draw, web, one), drawn_map(draw, other, web)
            found = pulled(one=one, other=other, joining=joining, web=web, mapping=there)
            self.assertEqual(found, tuple(times(table, there[tail])
                                          for table, (tail, head) in zip(joining, net.arrows)))
            found = pushed(one=one, other=other, joining=joining, web=web, mapping=on)
            self.assertEqual(found, tuple(times(on[head], table)
                                          for table, (tail, head) in zip(joining, net.arrows)))

    def judged(self, work, judge, told, name, right, bents):
        """What work tells is judged; so is what is otherwise, as right tells."""
        found = work(*told)
        self.assertIs(type(found), tuple)
        self.assertEqual(found[0], name)
        self.assertIs(judge(*told, found), True)
        self.assertEqual(work(*told), found)
        for thing in of_other_kinds(found):
            self.assertIs(judge(*told, thing), False)
        for bent in bents(found[1]):
            self.assertIs(judge(*told, (name, bent)), right(name, bent))

    def test_lifted_and_spread(self):
        draw = drawn(855)
        seen = {}
        for net in all_nets(856) * 3:
            one, other, web = drawn_three(draw, net)
            joining = drawn_joining(draw, one, other)
            middle, ends = middle_web(one, other, joining), middle_maps(one, other, joining)
            there, on = drawn_map(draw, web, one), drawn_map(draw, other, web)
            up, down = [pulled(one, other, joining, web, there), pushed(one, other, joining, web, on)]

            def lifts(name, bent):
                if name == "map":
                    return is_map(web, middle, bent) and behind(bent, ends[1]) == there
                return is_probe(web, other, bent) and probe_value(web, other, bent, up) != 0

            def spreads(name, bent):
                if name == "map":
                    return is_map(middle, web, bent) and behind(ends[0], bent) == on
                return is_probe(one, web, bent) and probe_value(one, web, bent, down) != 0

            few = lambda mapping: list(with_one_otherwise(mapping))[:12]
            for work, judge, mapping, ends_of, joined, right in (
                    (lifted, is_lifted, there, (web, other), up, lifts),
                    (spread, is_spread, on, (one, web), down, spreads)):
                same = tidy_joining(*ends_of, joined) == no_joining(*ends_of)
                name = "map" if same else "probe"
                self.judged(work, judge, (one, other, joining, web, mapping), name, right, few)
                seen[work, name] = seen.get((work, name), 0) + 1
        self.assertEqual(len(seen), 4)
        self.assertGreater(min(seen.values()), 4)

    def test_by_hand(self):
        # The whole line is the middle of its two points: the point at its tail does not lift, its head is not spread.
        one, other = bare(STEP, 5, (1, 0)), bare(STEP, 5, (0, 1))
        joining = (plain(5, 1),)
        unit = (plain(5, 1), empty(5, 0, 0))
        self.assertEqual(lifted(one, other, joining, one, unit), ("probe", (plain(5, 1),)))
        self.assertEqual(lifted(one, other, joining, one, (empty(5, 1, 1), empty(5, 0, 0))),
                         ("map", (empty(5, 1, 1), empty(5, 1, 0))))
        last = (empty(5, 0, 0), plain(5, 1))
        self.assertEqual(spread(one, other, joining, other, last), ("probe", (plain(5, 1),)))
        self.assertEqual(lifted(one, other, no_joining(one, other), one, unit), ("map", (plain(5, 1), empty(5, 1, 0))))

    def test_errors_in_their_order(self):
        one = Web(STEP, 3, (1, 1), [plain(3, 1)])
        good = {"one": one, "other": one, "joining": (plain(3, 1),), "web": one, "mapping": PLAIN}
        steps = [("one", None, ("BadWeb", None)), ("other", 3, ("BadWeb", None)), ("web", STEP, ("BadWeb", None)),
                 ("web", bare(STEP, 5, (1, 1)), ("OtherNet",)), ("joining", [plain(3, 1)], ("BadJoining",)),
                 ("mapping", (plain(3, 1), empty(3, 1, 1)), ("BadMaps",))]
        for work in (pulled, pushed, lifted, spread):
            check_order(self, work, good, steps)
        for work in (is_lifted, is_spread):
            check_order(self, work, {**good, "thing": None}, steps)

    def test_great_sizes(self):
        # A room above 60, and more than 300 numbers, one behind the other.
        great, one, more = bare(STEP, 2, (30, 0)), bare(STEP, 2, (31, 0)), bare(STEP, 2, (1, 0))
        no_map = lambda a, b: tuple(empty(2, y, x) for x, y in zip(a.sizes, b.sizes))
        for work, ends in ((lifted, (more, one)), (spread, (great, more))):
            told = (one, great, no_joining(one, great), more, no_map(*((more, one) if work is lifted else (great, more))))
            self.assertEqual(error_of(work, *told), ("BadWeb", "sizes"))
            judge = is_lifted if work is lifted else is_spread
            self.assertEqual(error_of(judge, *told, None), ("BadWeb", "sizes"))
        for work, judge in ((lifted, is_lifted), (spread, is_spread)):
            for size, told in ((15, None), (16, ("TooMany", 300))):
                web = bare(STEP, 2, (0, 20)) if work is spread else bare(STEP, 2, (20, 0))
                one, other = bare(STEP, 2, (size, 0)), bare(STEP, 2, (0, size))
                mapping = no_map(web, one) if work is lifted else no_map(other, web)
                found = (one, other, no_joining(one, other), web, mapping)
                self.assertEqual(error_of(work, *found), told)
                self.assertIsNone(error_of(judge, *found, None))
                wide = (mapping[0], empty(2, size, 20) if work is lifted else empty(2, 20, size))
                self.assertIs(type(judge(*found, ("map", wide))), bool)


class LostTest(unittest.TestCase):

    def test_against_maps_and_joinings(self):
        draw = drawn(857)
        seen = 0
        for net in all_nets(858) * 3:
            one, other, web = drawn_three(draw, net)
            joining = drawn_joining(draw, one, other)
            lost = count_lost(one=one, other=other, joining=joining, web=web)
            middle = middle_web(one, other, joining)
            self.assertEqual(count_maps(web, middle), count_maps(web, other) + count_maps(web, one) - lost)
            self.assertEqual(count_joinings(web, middle),
                             count_joinings(web, other) + count_joinings(web, one) - lost)
            lines = [[probe_value(web, other, probe, pulled(one, other, joining, web, mapping))
                      for probe in probes(web, other)] for mapping in maps(web, one)]
            if max(len(lines), len(probes(web, other))) <= 60:
                self.assertEqual(lost, rank(Table(one.prime, len(lines), len(probes(web, other)), lines)))
            self.assertEqual(count_lost(one, other, no_joining(one, other), web), 0)
            seen += lost > 0
        self.assertGreater(seen, 5)

    def test_errors_in_their_order(self):
        one = Web(STEP, 3, (1, 1), [plain(3, 1)])
        good = {"one": one, "other": one, "joining": (plain(3, 1),), "web": one}
        check_order(self, count_lost, good, [
            ("one", None, ("BadWeb", None)), ("other", 3, ("BadWeb", None)), ("web", STEP, ("BadWeb", None)),
            ("web", bare(RING, 3, (1, 1, 1)), ("OtherNet",)), ("joining", (), ("BadJoining",))])

    def test_300_numbers(self):
        # Joinings of web to other, slacks of it, maps from web to one; no room is too great here.
        for sizes, ones, others, told in (((20, 0), (0, 0), (0, 15), None), ((20, 0), (0, 0), (0, 16), 300),
                                          ((0, 20), (0, 0), (0, 15), None), ((0, 20), (0, 0), (0, 16), 300),
                                          ((5, 0), (60, 0), (0, 60), None), ((5, 1), (60, 1), (0, 50), 300),
                                          ((0, 5), (0, 60), (0, 60), None), ((0, 7), (0, 43), (0, 42), 300)):
            web, one, other = [bare(STEP, 2, some) for some in (sizes, ones, others)]
            found = error_of(count_lost, one, other, no_joining(one, other), web)
            self.assertEqual(found, None if told is None else ("TooMany", told))
        self.assertEqual(count_lost(one, other, no_joining(one, other), bare(STEP, 2, (0, 0))), 0)


class MiddleKindsTest(unittest.TestCase):

    def test_example(self):
        for prime in (2, 3, 5):
            one = Web(STAR, prime, (1, 1, 1, 1), [plain(prime, 1)] * 3)
            other = bare(STAR, prime, (0, 0, 0, 1))
            found = middle_kinds(one=one, other=other)
            told = [({(0, 0, 0, 1): 1, (1, 1, 1, 1): 1}, 1)]
            told += [({(0, 0, 1, 1): 1, (1, 1, 0, 1): 1}, prime - 1), ({(0, 1, 0, 1): 1, (1, 0, 1, 1): 1}, prime - 1),
                     ({(0, 1, 1, 1): 1, (1, 0, 0, 1): 1}, prime - 1)]
            if prime > 2:
                told.append(({(1, 1, 1, 2): 1}, prime ** 2 - 1 - 3 * (prime - 1)))
            self.assertEqual(found, told)
            for kind, _ in found:
                self.assertEqual(list(kind), sorted(kind))

    def test_against_all_joinings(self):
        draw = drawn(861)
        for net in (STEP, STRAIGHT, CLASH, STAR):
            for _ in range(4):
                one, other = [drawn_web(draw, net, 2, drawn_sizes(draw, net, 2)) for _ in range(2)]
                try:
                    found = middle_kinds(one, other)
                except TooMany:
                    continue
                row = tuple(a + b for a, b in zip(one.sizes, other.sizes))
                order = kinds_of(net, row)
                self.assertEqual([kind for kind, _ in found], [kind for kind in order
                                                               if kind in [other_kind for other_kind, _ in found]])
                self.assertEqual(sum(many for _, many in found), 2 ** count_joinings(one, other))
                self.assertEqual(dict((tuple(sorted(kind.items())), many) for kind, many in found)[
                    tuple(sorted(sum_kind(net, [kind_of(one), kind_of(other)]).items()))], 1)
                for _ in range(4):
                    middle = kind_of(middle_web(one, other, drawn_joining(draw, one, other)))
                    self.assertIn(middle, [kind for kind, _ in found])

    def test_how_many_parts(self):
        draw = drawn(862)
        seen = 0
        for net, prime in ((STEP, 2), (STEP, 3), (CLASH, 2), (STRAIGHT, 2)):
            for _ in range(5):
                one, other = [drawn_web(draw, net, prime, drawn_sizes(draw, net, 1)) for _ in range(2)]
                row = tuple(a + b for a, b in zip(one.sizes, other.sizes))
                told = {tuple(sorted(kind.items())): many for kind, many in middle_kinds(one, other)}
                for kind in kinds_of(net, row):
                    web = whole_of(net, prime, kind)
                    many = 0
                    for part in all_parts(web):
                        some, rest = part_web(web, part)[0], rest_of_part(web, part)[0]
                        if some.sizes == other.sizes:
                            many += alike(some, other)[0] == alike(rest, one)[0] == "map"
                    right = prime ** count_maps(one, other) * count_turns(one) * count_turns(other) * many
                    self.assertEqual(told.get(tuple(sorted(kind.items())), 0) * count_turns(web), right)
                    seen += many > 0
        self.assertGreater(seen, 20)

    def test_errors_in_their_order(self):
        one = bare(STEP, 3, (1, 1))
        check_order(self, middle_kinds, {"one": one, "other": one}, [
            ("one", None, ("BadWeb", None)), ("other", 3, ("BadWeb", None)),
            ("other", bare(STEP, 5, (1, 1)), ("OtherNet",))])
        for net in (PAIR, RING, SQUARE):
            great = bare(net, 3, (60,) * net.places)
            self.assertEqual(error_of(middle_kinds, great, great), ("NotGood",))
        great = bare(STEP, 3, (31, 0))
        self.assertEqual(error_of(middle_kinds, great, great), ("BadWeb", "sizes"))
        self.assertEqual(error_of(middle_kinds, bare(STEP, 3, (30, 0)), bare(STEP, 3, (0, 30))), ("TooMany", 300))
        # 2 ** 9 and 2 ** 10 joinings, 23 ** 2 and 29 ** 2.
        for prime, sizes, told in ((2, (9, 0), None), (2, (10, 0), 600), (23, (2, 0), None), (29, (2, 0), 600)):
            one, other = bare(STEP, prime, sizes), bare(STEP, prime, (0, 1))
            self.assertEqual(error_of(middle_kinds, one, other), None if told is None else ("TooMany", told))
        self.assertEqual(middle_kinds(bare(ONE, 3, (60,)), bare(ONE, 3, (0,))), [({(1,): 60}, 1)])
        self.assertEqual(middle_kinds(*[bare(net, 2, (0,) * net.places) for net in (GOOD[2],) * 2]), [({}, 1)])

    def test_multiples_are_alike(self):
        one, other = bare(STEP, 5, (2, 0)), bare(STEP, 5, (0, 2))
        some = (Table(5, 2, 2, [[1, 2], [0, 0]]),)
        for number in (1, 2, 3, 4):
            more = scaled_joining(one, other, some, number)
            self.assertEqual(more, tuple(scaled(table, number) for table in some))
            self.assertEqual(kind_of(middle_web(one, other, more)), {(0, 1): 1, (1, 0): 1, (1, 1): 1})


if __name__ == "__main__":
    unittest.main()
