"""Point [91]: blocks, and the joining of each."""

import unittest

from boughwebs.blocks import block_joining, blocks_between, is_block
from boughwebs.joinings import count_joinings, joinings, scaled_joining, tidy_joining
from boughwebs.kinds import kind_row, kinds_of, maps_of_kinds
from boughwebs.leasts import least_web
from boughwebs.middles import middle_kinds, middle_web
from boughwebs.roots import highest, pair_form, roots
from boughwebs.splits import kind_of
from boughwebs.tables import Table, plain
from boughwebs.webs import Web, bare
from tests.drawn import (ARMS_SIX, CLASH, GOOD, ONE, PAIR, RING, STAR, STEP, STRAIGHT, check_order, drawn, error_of,
                         good_nets, of_other_kinds, turned_about)
from tests.test_joinings import numbers_of

CROSS = ((1, 1, 1, 1), (0, 0, 0, 1))


def bends_plainly(net, one, other):
    """Whether no root has more maps into one, both of the same row."""
    return kind_row(net, one) == kind_row(net, other) and all(
        maps_of_kinds(net, {root: 1}, one) <= maps_of_kinds(net, {root: 1}, other) for root in roots(net))


def is_block_plainly(net, outer, inner, kind):
    both = {outer: 1, inner: 1}
    return (pair_form(net, outer, inner) < 0 and bends_plainly(net, kind, both)
            and maps_of_kinds(net, kind, kind) == maps_of_kinds(net, both, both) - 1)


class BlockTest(unittest.TestCase):

    def test_all_of_small_nets(self):
        seen = 0
        for net in GOOD[:6]:
            for outer in roots(net):
                for inner in roots(net):
                    row = tuple(a + b for a, b in zip(outer, inner))
                    told = [kind for kind in kinds_of(net, row)
                            if outer != inner and is_block_plainly(net, outer, inner, kind)]
                    found = blocks_between(net=net, outer=outer, inner=inner)
                    self.assertIs(type(found), list)
                    self.assertEqual(found, told)
                    self.assertIs(bool(found), pair_form(net, outer, inner) < 0)
                    for kind in kinds_of(net, row):
                        self.assertIs(is_block(net=net, thing=(outer, inner, kind)), kind in told)
                        seen += kind in told
        self.assertGreater(seen, 40)

    def test_greater_nets(self):
        draw = drawn(901)
        for net in good_nets(902)[4:]:
            pairs = [(a, b) for a in roots(net) for b in roots(net) if pair_form(net, a, b) < 0]
            for outer, inner in draw.sample(pairs, 4):
                found = error_of(blocks_between, net, outer, inner)
                if found is not None:
                    self.assertEqual(found, ("TooMany", 3000))
                    continue
                found = blocks_between(net, outer, inner)
                self.assertGreater(len(found), 0)
                row = tuple(a + b for a, b in zip(outer, inner))
                self.assertEqual(found, [kind for kind in kinds_of(net, row) if kind in found])
                for kind in found[:5]:
                    self.assertTrue(is_block_plainly(net, outer, inner, kind))

    def test_example(self):
        outer, inner = CROSS
        found = blocks_between(STAR, outer, inner)
        self.assertEqual(found, [{(0, 0, 1, 1): 1, (1, 1, 0, 1): 1}, {(0, 1, 0, 1): 1, (1, 0, 1, 1): 1},
                                 {(0, 1, 1, 1): 1, (1, 0, 0, 1): 1}])
        self.assertIs(is_block(STAR, (outer, inner, {(1, 1, 1, 2): 1})), False)
        self.assertEqual(blocks_between(STAR, inner, outer), [])
        self.assertEqual(blocks_between(STEP, (1, 0), (0, 1)), [{(1, 1): 1}])

    def test_is_block_of_any_value(self):
        thing = ((1, 0), (0, 1), {(1, 1): 1})
        self.assertIs(is_block(STEP, thing), True)
        for other in of_other_kinds(thing):
            self.assertIs(is_block(STEP, other), False)
        for other in ((thing[1], thing[0], thing[2]), thing[:2], ((1, 0), (0, 1), {}), ((1, 0), (0, 1), {(1, 1): 2}),
                      ((1, 0), (0, 1), {(1, 1): True}), ((1, 0), (0, 1), {(0, 1): 1, (1, 0): 1}),
                      ((2, 0), (0, 1), {(1, 1): 1}), ((1, 0), (0, 1), [((1, 1), 1)]), ((1, 0), (1, 0), {(1, 0): 2})):
            self.assertIs(is_block(STEP, other), False)

    def test_too_many_kinds(self):
        net = ARMS_SIX
        many = {}
        for outer in roots(net):
            for inner in roots(net):
                if pair_form(net, outer, inner) < 0:
                    row = tuple(a + b for a, b in zip(outer, inner))
                    told = error_of(kinds_of, net, row)
                    self.assertEqual(error_of(blocks_between, net, outer, inner), told)
                    many[told] = many.get(told, 0) + 1
        net = good_nets(3)[-1]
        top = highest(net)
        inner = [root for root in roots(net) if pair_form(net, top, root) < 0][-1]
        self.assertEqual(error_of(blocks_between, net, top, inner), ("TooMany", 3000))
        # Without joinings it does not matter how many kinds there are.
        self.assertEqual(blocks_between(net, top, top), [])
        self.assertGreater(many[None], 20)

    def test_errors_in_their_order(self):
        good = {"net": STEP, "outer": (1, 0), "inner": (0, 1)}
        check_order(self, blocks_between, good, [
            ("net", None, ("BadNet", None)), ("net", PAIR, ("NotGood",)), ("outer", [1, 0], ("BadRow",)),
            ("inner", (0, 2), ("BadRow",))])
        for wrong in ((0, 0), (1,), (True, 0), (1, 2), None, "10", (1, -1)):
            self.assertEqual(error_of(blocks_between, STEP, wrong, (0, 1)), ("BadRow",))
            self.assertEqual(error_of(blocks_between, STEP, (1, 0), wrong), ("BadRow",))
        check_order(self, is_block, {"net": STEP, "thing": None}, [("net", 3, ("BadNet", None)),
                                                                   ("net", RING, ("NotGood",))])


class BlockJoiningTest(unittest.TestCase):

    def check_joining(self, outer, inner, kind):
        found = block_joining(outer=outer, inner=inner, kind=kind)
        self.assertIs(type(found), tuple)
        self.assertEqual(tidy_joining(outer, inner, found), found)
        numbers = numbers_of(found)
        self.assertEqual([number for number in numbers if number][0], 1)
        self.assertEqual(kind_of(middle_web(outer, inner, found)), kind)
        self.assertEqual(block_joining(outer, inner, kind), found)
        return found

    def test_joinings_of_blocks(self):
        draw = drawn(903)
        seen = {}
        for net in GOOD[1:] + good_nets(904)[4:]:
            pairs = [(a, b) for a in roots(net) for b in roots(net) if pair_form(net, a, b) < 0]
            more = [pair for pair in pairs if pair_form(net, *pair) < -1]
            for outer, inner in draw.sample(pairs, min(3, len(pairs))) + draw.sample(more, min(4, len(more))):
                if error_of(blocks_between, net, outer, inner) is not None:
                    continue
                for kind in blocks_between(net, outer, inner)[:3]:
                    for prime in (2, 3, 97):
                        webs = [turned_about(draw, least_web(net, prime, root)) for root in (outer, inner)]
                        self.check_joining(*webs, kind)
                    many = -pair_form(net, outer, inner)
                    seen[many] = seen.get(many, 0) + 1
        self.assertGreaterEqual(len(seen), 2)

    def test_just_one_but_for_multiples(self):
        # Of all joinings, the blocks' kinds come of prime - 1 each.
        for prime in (2, 3, 5):
            for outer, inner in (CROSS, ((1, 1, 0, 1), (0, 0, 1, 1))):
                webs = [least_web(STAR, prime, root) for root in (outer, inner)]
                told = {tuple(kind.items()): many for kind, many in middle_kinds(*webs)}
                for kind in blocks_between(STAR, outer, inner):
                    self.assertEqual(told[tuple(kind.items())], prime - 1)
                    found = self.check_joining(*webs, kind)
                    for number in range(1, prime):
                        middle = middle_web(*webs, scaled_joining(*webs, found, number))
                        self.assertEqual(kind_of(middle), kind)

    def test_by_hand(self):
        outer, inner = least_web(STRAIGHT, 5, (1, 0, 0)), least_web(STRAIGHT, 5, (0, 1, 1))
        self.assertEqual(block_joining(outer, inner, {(1, 1, 1): 1}), joinings(outer, inner)[0])
        self.assertEqual(count_joinings(outer, inner), 1)

    def test_errors_in_their_order(self):
        outer, inner = bare(STEP, 3, (1, 0)), bare(STEP, 3, (0, 1))
        kind = {(1, 1): 1}
        steps = [("outer", None, ("BadWeb", None)), ("inner", 3, ("BadWeb", None)),
                 ("inner", bare(STEP, 5, (0, 1)), ("OtherNet",)), ("kind", {(1, 1): 0}, ("BadKind",))]
        check_order(self, block_joining, {"outer": outer, "inner": inner, "kind": kind}, steps)
        webs = [bare(PAIR, 3, (1, 0)), bare(PAIR, 3, (0, 1))]
        self.assertEqual(error_of(block_joining, *webs, None), ("NotGood",))
        for told in ((outer, inner, {}), (outer, inner, {(1, 0): 1, (0, 1): 1}), (inner, outer, kind),
                     (outer, outer, {(1, 0): 2}), (bare(STEP, 3, (1, 1)), inner, kind),
                     (outer, bare(STEP, 3, (0, 2)), {(1, 1): 1, (0, 1): 1}), (outer, bare(STEP, 3, (0, 0)), kind)):
            self.assertEqual(error_of(block_joining, *told), ("NotSo",))
        # Of the right sizes, but with two maps to itself.
        twice = bare(STRAIGHT, 3, (0, 1, 1))
        self.assertEqual(error_of(block_joining, bare(STRAIGHT, 3, (1, 0, 0)), twice, {(1, 1, 1): 1}), ("NotSo",))
        twice = bare(STRAIGHT, 3, (1, 1, 0))
        self.assertEqual(error_of(block_joining, twice, bare(STRAIGHT, 3, (0, 0, 1)), {(1, 1, 1): 1}), ("NotSo",))
        whole = Web(STRAIGHT, 3, (0, 1, 1), [Table(3, 1, 0, [[]]), plain(3, 1)])
        self.check_joining(bare(STRAIGHT, 3, (1, 0, 0)), whole, {(1, 1, 1): 1})
        self.assertEqual(error_of(block_joining, bare(ONE, 3, (1,)), bare(ONE, 3, (1,)), {(1,): 2}), ("NotSo",))
        self.assertEqual(error_of(block_joining, bare(CLASH, 3, (1, 0, 0)), bare(CLASH, 3, (0, 0, 1)), {}), ("NotSo",))


if __name__ == "__main__":
    unittest.main()
