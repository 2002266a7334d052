"""Points [90], [92], [93]: which kinds bend into which, chains of blocks, and what shows it for webs."""

import unittest

from boughwebs.bends import (barred_by, bend_chain, bending_steps, bends, chain_kinds, is_bend_chain, is_bending,
                             is_shown_bending, shown_bending)
from boughwebs.blocks import blocks_between, is_block
from boughwebs.joinings import no_joining
from boughwebs.kinds import general_kind, kinds_of, maps_of_kinds, sum_kind
from boughwebs.leasts import least_web
from boughwebs.maps import count_maps
from boughwebs.middles import middle_web
from boughwebs.mirrors import mirrored_net
from boughwebs.nets import Net, sinks, sources, turned_net
from boughwebs.roots import mirrored_row, roots
from boughwebs.solving import is_whole
from boughwebs.splits import kind_of, whole_of
from boughwebs.tables import Table, empty, plain, scaled
from boughwebs.webs import Web, bare, sum_of
from tests.drawn import (ARMS_SIX, CLASH, GOOD, ONE, PAIR, RING, STAR, STEP, STRAIGHT, check_order, drawn, drawn_map,
                         drawn_sizes, drawn_web, error_of, good_nets, of_other_kinds, small_rows, turned_about,
                         with_number)
from tests.test_blocks import bends_plainly

SMALL = [(net, row) for net, most in ((ONE, 3), (STEP, 3), (STRAIGHT, 2), (CLASH, 2), (STAR, 1))
         for row in small_rows(net, most)] + [(STAR, (1, 1, 1, 2)), (STAR, (1, 2, 2, 2))]


def unit_kind(net, row):
    """The kind of the bare web of this row."""
    units = [tuple(int(k == place) for k in range(net.places)) for place in range(net.places)]
    return {unit: row[place] for place, unit in reversed(list(enumerate(units))) if row[place]}


def turned_kind(kind, change):
    return {change(root): kind[root] for root in kind}


class BendsTest(unittest.TestCase):

    def test_all_pairs_of_small_rows(self):
        for net, row in SMALL:
            kinds = kinds_of(net, row)
            told = [[bends(net=net, one=one, other=other) for other in kinds] for one in kinds]
            for k, one in enumerate(kinds):
                for at, other in enumerate(kinds):
                    self.assertIs(told[k][at], bends_plainly(net, one, other))
                    found = barred_by(net=net, one=one, other=other)
                    self.assertIs(found is None, told[k][at])
                    if found is not None:
                        many = [(root, maps_of_kinds(net, {root: 1}, one), maps_of_kinds(net, {root: 1}, other))
                                for root in roots(net)]
                        self.assertEqual(found, [triple for triple in many if triple[1] > triple[2]][0])
                    # An order: none but equal kinds bend both ways; fewer maps to itself.
                    self.assertIs(told[k][at] and told[at][k], k == at)
                    if told[k][at] and k != at:
                        self.assertLess(maps_of_kinds(net, one, one), maps_of_kinds(net, other, other))
                    for j, between in enumerate(told[at]):
                        self.assertTrue(told[k][j] or not (told[k][at] and between))
            general, last = general_kind(net, row), unit_kind(net, row)
            for kind in kinds:
                self.assertIs(bends(net, general, kind), True)
                self.assertIs(bends(net, kind, last), True)

    def test_maps_from_both(self):
        for net, row in SMALL:
            kinds = kinds_of(net, row)
            for one in kinds:
                for other in kinds:
                    told = all(maps_of_kinds(net, one, {root: 1}) <= maps_of_kinds(net, other, {root: 1})
                               for root in roots(net))
                    self.assertIs(bends(net, one, other), told)
                    self.assertIs(bends(turned_net(net), one, other), told)

    def test_added_and_mirrored(self):
        draw = drawn(911)
        for net, row in SMALL:
            kinds = kinds_of(net, row)
            for _ in range(10):
                one, other = draw.choice(kinds), draw.choice(kinds)
                more = {draw.choice(roots(net)): draw.randrange(1, 3)}
                told = bends(net, one, other)
                self.assertIs(bends(net, sum_kind(net, [one, more]), sum_kind(net, [other, more])), told)
                for place in sinks(net) + sources(net):
                    unit = tuple(int(k == place) for k in range(net.places))
                    if unit not in one and unit not in other:
                        changed = [turned_kind(kind, lambda root: mirrored_row(net, place, root))
                                   for kind in (one, other)]
                        self.assertIs(bends(mirrored_net(net, place), *changed), told)

    def test_by_ranks_on_straight_lines(self):
        # One bends into other exactly if for any two places at least as many roots of one cover both.
        for row in small_rows(STRAIGHT, 2):
            for one in kinds_of(STRAIGHT, row):
                for other in kinds_of(STRAIGHT, row):
                    cover = [[sum(many for root, many in kind.items() if all(root[first:last + 1]))
                              for first in range(3) for last in range(first, 3)] for kind in (one, other)]
                    self.assertIs(bends(STRAIGHT, one, other), all(a >= b for a, b in zip(*cover)))

    def test_unlike_rows(self):
        self.assertIs(bends(STEP, {(1, 1): 1}, {(1, 0): 1}), False)
        self.assertIs(bends(STEP, {}, {(1, 0): 1}), False)
        self.assertIs(bends(STEP, {}, {}), True)
        self.assertIsNone(barred_by(STEP, {}, {}))
        self.assertEqual(error_of(barred_by, STEP, {(1, 1): 1}, {(1, 0): 1}), ("NotSo",))
        self.assertEqual(barred_by(STEP, {(0, 1): 1, (1, 0): 1}, {(1, 1): 1}), ((1, 0), 1, 0))
        self.assertIsNone(barred_by(STEP, {(1, 1): 1}, {(0, 1): 1, (1, 0): 1}))

    def test_errors_in_their_order(self):
        good = {"net": STEP, "one": {(1, 1): 1}, "other": {(1, 0): 1, (0, 1): 1}}
        steps = [("net", None, ("BadNet", None)), ("net", PAIR, ("NotGood",)), ("one", {(1, 1): 0}, ("BadKind",)),
                 ("other", [], ("BadKind",))]
        for work in (bends, barred_by, bend_chain):
            check_order(self, work, good, steps)
        check_order(self, is_bend_chain, {**good, "thing": None}, steps)


class ChainTest(unittest.TestCase):

    def check_chain(self, net, one, other):
        """A chain from other to one is told and judged, step by step."""
        found = bend_chain(net=net, one=one, other=other)
        self.assertIs(type(found), list)
        self.assertIs(is_bend_chain(net=net, one=one, other=other, thing=found), True)
        self.assertEqual(bend_chain(net, one, other), found)
        # Equal kinds, but with their roots in another order.
        turned = [dict(list(kind.items())[::-1]) for kind in (one, other)]
        self.assertEqual(bend_chain(net, *turned), found)
        kind = dict(other)
        told = [kind]
        for block in found:
            self.assertIs(is_block(net, block), True)
            left = dict(kind)
            for root in block[:2]:
                left[root] -= 1
            kind = sum_kind(net, [{root: many for root, many in left.items() if many}, block[2]])
            told.append(kind)
        self.assertEqual(kind, one)
        self.assertEqual(chain_kinds(net=net, other=other, chain=found), told)
        self.assertEqual(chain_kinds(net=net, other=other, chain=tuple(found)), told)
        return found

    def test_chains(self):
        draw = drawn(913)
        for net, row in SMALL:
            kinds = kinds_of(net, row)
            for _ in range(12):
                one, other = draw.choice(kinds), draw.choice(kinds)
                if bends(net, one, other):
                    found = self.check_chain(net, one, other)
                    self.assertIs(found == [], one == other)
                else:
                    self.assertEqual(error_of(bend_chain, net, one, other), ("NotSo",))
                    self.assertIs(is_bend_chain(net, one, other, []), False)

    def test_greater_nets(self):
        draw = drawn(914)
        for net in good_nets(915)[3:]:
            row = drawn_sizes(draw, net, 2)
            if error_of(kinds_of, net, row) is None:
                found = self.check_chain(net, general_kind(net, row), unit_kind(net, row))
                self.assertEqual(len(found) > 0, general_kind(net, row) != unit_kind(net, row))

    def test_with_one_block_otherwise(self):
        net, row = STAR, (1, 1, 1, 2)
        one, other = general_kind(net, row), unit_kind(net, row)
        chain = self.check_chain(net, one, other)
        for thing in of_other_kinds(chain):
            self.assertIs(is_bend_chain(net, one, other, thing), False)
        for thing in (chain[:-1], chain[1:], chain[::-1], chain + chain[-1:], [list(block) for block in chain]):
            if thing != chain:
                self.assertIs(is_bend_chain(net, one, other, thing), False)
        self.assertIs(is_bend_chain(net, other, other, []), True)
        self.assertIs(is_bend_chain(net, other, other, ()), False)
        for at, (outer, inner, kind) in enumerate(chain):
            for some in blocks_between(net, outer, inner):
                thing = chain[:at] + [(outer, inner, some)] + chain[at + 1:]
                told = error_of(chain_kinds, net, other, thing) is None and chain_kinds(net, other, thing)[-1] == one
                self.assertIs(is_bend_chain(net, one, other, thing), told)
            self.assertIs(is_bend_chain(net, one, other, chain[:at] + [(inner, outer, kind)] + chain[at + 1:]), False)

    def test_chain_kinds_refused(self):
        block = ((1, 0), (0, 1), {(1, 1): 1})
        both = {(0, 1): 1, (1, 0): 1}
        self.assertEqual(chain_kinds(STEP, both, []), [both])
        self.assertEqual(chain_kinds(STEP, both, [block]), [both, {(1, 1): 1}])
        for chain in ([block, block], [list(block)], None, 3, block, {}, "", [None], [block[:2]]):
            self.assertEqual(error_of(chain_kinds, STEP, both, chain), ("NotSo",))
        self.assertEqual(error_of(chain_kinds, STEP, {(1, 0): 1}, [block]), ("NotSo",))
        check_order(self, chain_kinds, {"net": STEP, "other": both, "chain": [block]}, [
            ("net", 3, ("BadNet", None)), ("net", RING, ("NotGood",)), ("other", {(1, 0): 1.0}, ("BadKind",)),
            ("chain", [3], ("NotSo",))])

    def test_too_many_kinds(self):
        whole, both = [{(1, 1): many} for many in (2999, 3000)], [{(0, 1): many, (1, 0): many} for many in (2999, 3000)]
        self.assertIsNone(error_of(bend_chain, STEP, whole[0], whole[0]))
        self.assertEqual(error_of(bend_chain, STEP, whole[1], whole[1]), ("TooMany", 3000))
        self.assertEqual(error_of(bend_chain, STEP, whole[1], both[1]), ("TooMany", 3000))
        self.assertEqual(error_of(bend_chain, STEP, both[1], whole[1]), ("NotSo",))
        self.assertIs(is_bend_chain(STEP, whole[1], whole[1], []), True)


class StepsTest(unittest.TestCase):

    def test_small_rows(self):
        for net, row in SMALL:
            kinds = kinds_of(net, row)
            if len(kinds) > 120:
                continue
            led = [[k != at and bends(net, one, other) for at, other in enumerate(kinds)]
                   for k, one in enumerate(kinds)]
            told = [(k, at) for k in range(len(kinds)) for at in range(len(kinds)) if led[k][at]
                    and not any(led[k][j] and led[j][at] for j in range(len(kinds)))]
            found = bending_steps(net=net, row=row)
            self.assertIs(type(found), list)
            self.assertEqual(found, told)
            for k, at in found:
                # Without what both have in common a step is one block.
                common = {root: min(kinds[k][root], kinds[at].get(root, 0)) for root in kinds[k]}
                left = [{root: many - common.get(root, 0) for root, many in kind.items()
                         if many > common.get(root, 0)} for kind in (kinds[k], kinds[at])]
                self.assertEqual(sorted(left[1].values()), [1, 1])
                self.assertTrue(any(is_block(net, (outer, inner, left[0]))
                                    for outer in left[1] for inner in left[1] if outer != inner))

    def test_limits(self):
        self.assertEqual(len(bending_steps(STEP, (119, 119))), 119)
        self.assertEqual(error_of(bending_steps, STEP, (120, 120)), ("TooMany", 120))
        self.assertEqual(error_of(bending_steps, STEP, (2999, 2999)), ("TooMany", 120))
        self.assertEqual(error_of(bending_steps, STEP, (3000, 3000)), ("TooMany", 3000))
        self.assertEqual(bending_steps(STEP, (-1, 2)), [])
        self.assertEqual(bending_steps(STEP, (0, 0)), [])
        self.assertEqual(bending_steps(STEP, (1, 1)), [(1, 0)])
        check_order(self, bending_steps, {"net": STEP, "row": (1, 1)}, [
            ("net", None, ("BadNet", None)), ("net", PAIR, ("NotGood",)), ("row", [1, 1], ("BadRow",))])


class BendingTest(unittest.TestCase):

    def stepped(self, draw, net, steps):
        """A bending of some web into a drawn one, on any net, with so many steps."""
        prime = draw.choice((2, 3))
        other = web = None
        told = []
        for _ in range(steps):
            if web is None:
                rest, inner, outer = [drawn_web(draw, net, prime, drawn_sizes(draw, net, 1)) for _ in range(3)]
                web = other = turned_about(draw, sum_of([rest, inner, outer]))
                turn = self.way_between(sum_of([rest, inner, outer]), web)
            else:
                rest, inner, outer = bare(net, prime, (0,) * net.places), bare(net, prime, (0,) * net.places), web
                turn = tuple(plain(prime, size) for size in web.sizes)
            joining = tuple(Table(prime, inner.sizes[head], outer.sizes[tail],
                                  [[draw.randrange(prime) for _ in range(outer.sizes[tail])]
                                   for _ in range(inner.sizes[head])]) for tail, head in net.arrows)
            told.append((rest, outer, inner, joining, turn))
            web = sum_of([rest, middle_web(outer, inner, joining)])
        one = turned_about(draw, web)
        return one, other, (told, self.way_between(web, one))

    def way_between(self, web, other):
        """Some map with an inverse between webs of which one is the other in other coordinates."""
        draw = drawn(7)
        while True:
            found = drawn_map(draw, web, other)
            if all(is_whole(table) for table in found):
                return found

    def test_on_any_net(self):
        draw = drawn(917)
        for net in (ONE, STEP, CLASH, PAIR, RING):
            for steps in (1, 2):
                one, other, thing = self.stepped(draw, net, steps)
                self.assertIs(is_bending(one=one, other=other, thing=thing), True)
                for wrong in of_other_kinds(thing):
                    self.assertIs(is_bending(one, other, wrong), False)
                for web in [drawn_web(draw, net, one.prime, drawn_sizes(draw, net, 1)) for _ in range(5)]:
                    self.assertLessEqual(count_maps(web, one), count_maps(web, other))
                    self.assertLessEqual(count_maps(one, web), count_maps(other, web))
                self.bent(one, other, thing)

    def bent(self, one, other, thing):
        """With one map, web or joining otherwise it is none, but where it happens to be one."""
        steps, way = thing
        for at, step in enumerate(steps):
            rest, outer, inner, joining, turn = step
            for k, some in enumerate((rest, outer, inner)):
                more = sum_of([some, bare(some.net, some.prime, (1,) * some.net.places)])
                wrong = steps[:at] + [step[:k] + (more,) + step[k + 1:]] + steps[at + 1:]
                self.assertIs(is_bending(one, other, (wrong, way)), False)
            noughts = tuple(scaled(table, 0) for table in turn)
            if any(rest.sizes) or any(inner.sizes) or any(outer.sizes):
                wrong = steps[:at] + [(rest, outer, inner, joining, noughts)] + steps[at + 1:]
                self.assertIs(is_bending(one, other, (wrong, way)), False)
        for k, table in enumerate(way):
            if table.tall:
                wrong = way[:k] + (scaled(table, 0),) + way[k + 1:]
                self.assertIs(is_bending(one, other, (steps, wrong)), False)

    def test_no_steps(self):
        for net in GOOD[:4] + [PAIR]:
            web = bare(net, 3, (1,) * net.places)
            unit = tuple(plain(3, 1) for _ in range(net.places))
            self.assertIs(is_bending(web, web, ([], unit)), True)
            self.assertIs(is_bending(web, web, ((), unit)), False)
            self.assertIs(is_bending(web, web, ([], list(unit))), False)
            self.assertIs(is_bending(web, web, [[], unit]), False)
            self.assertIs(is_bending(web, web, ([None], unit)), False)
            self.assertIs(is_bending(web, web, ([], tuple(empty(3, 1, 1) for _ in unit))), False)

    def test_one_joining_otherwise(self):
        whole, both = Web(STEP, 5, (1, 1), [plain(5, 1)]), bare(STEP, 5, (1, 1))
        nothing, outer, inner = [bare(STEP, 5, sizes) for sizes in ((0, 0), (1, 0), (0, 1))]
        turn = (plain(5, 1), plain(5, 1))
        for number in range(5):
            thing = ([(nothing, outer, inner, (Table(5, 1, 1, [[number]]),), turn)], turn)
            self.assertIs(is_bending(whole, both, thing), number == 1)
        self.assertIs(is_bending(both, both, ([(nothing, outer, inner, no_joining(outer, inner), turn)], turn)), True)
        self.assertIs(is_bending(both, whole, ([(nothing, outer, inner, (plain(5, 1),), turn)], turn)), False)
        other = bare(STEP, 3, (1, 0))
        self.assertIs(is_bending(whole, both, ([(nothing, other, inner, (plain(5, 1),), turn)], turn)), False)

    def test_one_web_otherwise(self):
        whole, both = Web(STEP, 5, (1, 1), [plain(5, 1)]), bare(STEP, 5, (1, 1))
        webs = [bare(STEP, 5, sizes) for sizes in ((0, 0), (1, 0), (0, 1))]
        turn = (plain(5, 1), plain(5, 1))
        for at in range(3):
            # Of another prime, of other nets, of rooms too great, and none.
            others = [bare(STEP, 3, webs[at].sizes), bare(Net(2, [(1, 0)]), 5, webs[at].sizes),
                      bare(PAIR, 5, webs[at].sizes), bare(STEP, 5, (60, 60)), bare(STEP, 5, (1, 1)), None, "web"]
            for other in others:
                step = tuple(webs[:at] + [other] + webs[at + 1:]) + ((plain(5, 1),), turn)
                self.assertIs(is_bending(whole, both, ([step], turn)), False)
                for joining in ((empty(5, 1, 60),), (empty(5, 60, 1),), (), (plain(5, 1), plain(5, 1))):
                    self.assertIs(is_bending(whole, both, ([step[:3] + (joining, turn)], turn)), False)
        self.assertIs(is_bending(whole, both, ([tuple(webs) + ((plain(5, 1),), turn)], turn)), True)

    def test_errors_in_their_order(self):
        web = bare(STEP, 3, (1, 1))
        check_order(self, is_bending, {"one": web, "other": web, "thing": None}, [
            ("one", 3, ("BadWeb", None)), ("other", None, ("BadWeb", None)),
            ("other", bare(PAIR, 3, (1, 1)), ("OtherNet",))])


class ShownTest(unittest.TestCase):

    def judged(self, one, other):
        found = shown_bending(one=one, other=other)
        self.assertIs(type(found), tuple)
        self.assertIs(is_shown_bending(one=one, other=other, thing=found), True)
        told = bends(one.net, kind_of(one), kind_of(other))
        self.assertEqual(found[0], "bending" if told else "root")
        self.assertEqual(shown_bending(one, other), found)
        if told:
            self.assertIs(is_bending(one, other, found[1]), True)
        else:
            name, root, many, fewer = found
            least = least_web(one.net, one.prime, root)
            self.assertEqual((count_maps(least, one), count_maps(least, other)), (many, fewer))
            self.assertGreater(many, fewer)
        return found

    def test_shown(self):
        draw = drawn(919)
        seen = {"bending": 0, "root": 0}
        for net in GOOD + good_nets(920):
            for density in (0.2, 0.8):
                sizes = drawn_sizes(draw, net, 2)
                if error_of(kinds_of, net, sizes) is not None:
                    continue
                prime = draw.choice((2, 3, 97))
                one, other = drawn_web(draw, net, prime, sizes), drawn_web(draw, net, prime, sizes, density)
                for pair in ((one, other), (other, one), (one, turned_about(draw, one))):
                    seen[self.judged(*pair)[0]] += 1
        self.assertGreater(min(seen.values()), 10)

    def test_both_ways_out_judged(self):
        draw = drawn(921)
        for net, row in ((STEP, (2, 2)), (CLASH, (1, 2, 1)), (STAR, (1, 1, 1, 2))):
            general = turned_about(draw, whole_of(net, 3, general_kind(net, row)))
            last = bare(net, 3, row)
            found = self.judged(general, last)
            for thing in of_other_kinds(found):
                self.assertIs(is_shown_bending(general, last, thing), False)
            self.assertIs(is_shown_bending(general, last, ("bending", ([], found[1][1]))), False)
            self.assertIs(is_shown_bending(last, general, found), False)
            found = self.judged(last, general)
            for thing in of_other_kinds(found):
                self.assertIs(is_shown_bending(last, general, thing), False)
            for root in roots(net):
                least = least_web(net, 3, root)
                many, fewer = count_maps(least, last), count_maps(least, general)
                self.assertIs(is_shown_bending(last, general, ("root", root, many, fewer)), many > fewer)
                self.assertIs(is_shown_bending(general, last, ("root", root, fewer, many)), fewer > many)
                self.assertIs(is_shown_bending(last, general, ("root", root, many + 1, fewer)), False)
                self.assertIs(is_shown_bending(last, general, ("root", list(root), many, fewer)), False)

    def test_unlike_sizes(self):
        one, other = bare(STEP, 3, (1, 1)), bare(STEP, 3, (1, 0))
        for pair in ((one, other), (other, one)):
            self.assertEqual(error_of(shown_bending, *pair), ("NotSo",))
            for thing in (None, ("root", (0, 1), 1, 0), ("root", (1, 0), 1, 1), ("bending", ([], (plain(3, 1),) * 2))):
                self.assertIs(is_shown_bending(*pair, thing), False)

    def test_too_many_kinds(self):
        # Whichever of the two is due.
        net, row = ARMS_SIX, (9,) * 6
        self.assertEqual(error_of(kinds_of, net, row), ("TooMany", 3000))
        last = bare(net, 2, row)
        general = whole_of(net, 2, general_kind(net, row))
        for pair in ((last, last), (last, general), (general, last)):
            self.assertEqual(error_of(shown_bending, *pair), ("TooMany", 3000))
        self.assertIs(is_shown_bending(last, last, ("bending", ([], tuple(plain(2, 9) for _ in row)))), True)
        told = barred_by(net, kind_of(last), kind_of(general))
        self.assertIs(is_shown_bending(last, general, ("root",) + told), True)
        other = bare(net, 2, (9, 9, 9, 9, 9, 8))
        self.assertEqual(error_of(shown_bending, last, other), ("NotSo",))

    def test_errors_in_their_order(self):
        web = bare(STEP, 3, (1, 1))
        steps = [("one", 3, ("BadWeb", None)), ("other", None, ("BadWeb", None)),
                 ("other", bare(STEP, 5, (1, 1)), ("OtherNet",))]
        check_order(self, shown_bending, {"one": web, "other": web},
                    steps + [("other", bare(STEP, 3, (0, 1)), ("NotSo",))])
        check_order(self, is_shown_bending, {"one": web, "other": web, "thing": None}, steps)
        for net in (PAIR, RING):
            webs = [bare(net, 3, (size,) * net.places) for size in (1, 2)]
            self.assertEqual(error_of(shown_bending, *webs), ("NotGood",))
            self.assertEqual(error_of(is_shown_bending, *webs, None), ("NotGood",))

    def test_empty_rooms_and_one_place(self):
        nothing = bare(STAR, 3, (0,) * 4)
        self.assertEqual(self.judged(nothing, nothing), ("bending", ([], (empty(3, 0, 0),) * 4)))
        self.assertEqual(self.judged(bare(ONE, 3, (60,)), bare(ONE, 3, (60,)))[1][0], [])
        whole = Web(STEP, 3, (1, 1), [with_number(empty(3, 1, 1))])
        self.assertEqual(len(self.judged(whole, bare(STEP, 3, (1, 1)))[1][0]), 1)


if __name__ == "__main__":
    unittest.main()
