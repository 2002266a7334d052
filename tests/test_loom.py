"""Points [60] to [62], [65] and [66]: the loom and orders of maps."""

import unittest
from itertools import permutations

from boughwebs.errors import BadNet, BadRow, NotGood, NotSo
from boughwebs.kinds import joinings_of_kinds, maps_of_kinds
from boughwebs.leasts import first_web, last_web, least_web
from boughwebs.loom import (is_order, last_root, loom, loom_order, maps_ahead, next_root, order_of_word, partners,
                            predecessors, round_number, spot_of, stands_before, successors, turn_counts, word_of_order)
from boughwebs.maps import count_maps
from boughwebs.nets import Net, sinks
from boughwebs.mirrors import mirrored_net
from boughwebs.roots import roots, shape
from boughwebs.words import (is_word, row_before, shifted_row, sink_word, unshifted_row, word_with)
from tests.drawn import (ARMS_SIX, FIVE, GOOD, ONE, PAIR, RING, STAR, STEP, STRAIGHT, TRIPLE, arms_net, drawn,
                         good_nets, renamed)

NO_ROOTS = (None, 3, (2, 1), (0, 0), (1, True), [1, 1], (1,), (-1, 0), (1, 1, 1), "11")


def unit(net, place):
    return tuple(int(k == place) for k in range(net.places))


def plain_loom(net):
    """The loom by the words of the document: each row mirrored back along all places before it."""
    word, turns, out, found = [], [0] * net.places, set(), []
    while len(out) < net.places:
        for place in sink_word(net):
            row = row_before(net, word, unit(net, place))
            if min(row) < 0:
                out.add(place)
            elif place not in out:
                found.append((place, turns[place], row))
                turns[place] += 1
            word.append(place)
    return found


def distances(net):
    """How many arrows lie between place 0 and the others, as a dict for each place."""
    found = []
    for start in range(net.places):
        far = {start: 0}
        while len(far) < net.places:
            for a, b in net.arrows:
                for one, other in ((a, b), (b, a)):
                    if one in far and other not in far:
                        far[other] = far[one] + 1
        found.append(far)
    return found


def told_partners(net):
    """The partners that the document tells for each shape."""
    name, places = shape(net)
    near = [[b if a == place else a for a, b in net.arrows if place in (a, b)] for place in range(net.places)]
    found = list(range(places))
    if name == "line" and places > 1:
        far = distances(net)[[place for place in range(places) if len(near[place]) == 1][0]]
        at = {far[place]: place for place in far}
        found = [at[places - 1 - far[place]] for place in range(places)]
    elif name == "fork" and places % 2 == 1:
        middle = [place for place in range(places) if len(near[place]) == 3][0]
        one, other = [place for place in near[middle] if len(near[place]) == 1]
        found[one], found[other] = other, one
    elif (name, places) == ("arms", 6):
        middle = [place for place in range(places) if len(near[place]) == 3][0]
        one, other = [place for place in near[middle] if len(near[place]) == 2]
        ends = [[place for place in near[next_one] if place != middle][0] for next_one in (one, other)]
        found[one], found[other] = other, one
        found[ends[0]], found[ends[1]] = ends[1], ends[0]
    return tuple(found)


class LoomTest(unittest.TestCase):

    def test_by_hand(self):
        told = [(2, 0, (0, 0, 1)), (1, 0, (0, 1, 1)), (0, 0, (1, 1, 1)), (2, 1, (0, 1, 0)), (1, 1, (1, 1, 0)),
                (2, 2, (1, 0, 0))]
        self.assertEqual(loom(net=STRAIGHT), told)
        self.assertEqual(loom_order(net=STRAIGHT), [root for place, turn, root in told])
        self.assertEqual(turn_counts(net=STRAIGHT), (1, 2, 3))
        self.assertEqual(partners(net=STRAIGHT), (2, 1, 0))
        self.assertEqual(round_number(net=STRAIGHT), 4)
        self.assertEqual(spot_of(net=STRAIGHT, root=(1, 1, 0)), (1, 1))
        self.assertEqual(next_root(net=STRAIGHT, root=(0, 1, 1)), (1, 1, 0))
        self.assertEqual(last_root(net=STRAIGHT, root=(0, 1, 0)), (0, 0, 1))
        self.assertIsNone(next_root(STRAIGHT, (1, 1, 1)))
        self.assertIsNone(last_root(STRAIGHT, (0, 0, 1)))
        self.assertEqual(successors(net=STRAIGHT, root=(0, 1, 1)), [(1, 1, 1), (0, 1, 0)])
        self.assertEqual(predecessors(net=STRAIGHT, root=(1, 1, 0)), [(1, 1, 1), (0, 1, 0)])
        self.assertEqual(successors(STRAIGHT, (1, 0, 0)), [])
        self.assertEqual(predecessors(STRAIGHT, (0, 0, 1)), [])
        self.assertEqual(maps_ahead(net=STRAIGHT, root=(0, 1, 1)),
                         {(0, 1, 0): 1, (0, 1, 1): 1, (1, 1, 0): 1, (1, 1, 1): 1})
        self.assertIs(stands_before(net=STRAIGHT, one=(0, 0, 1), other=(1, 0, 0)), True)
        self.assertIs(stands_before(STRAIGHT, (0, 1, 0), (1, 1, 1)), False)
        self.assertEqual((loom(ONE), turn_counts(ONE), partners(ONE), round_number(ONE)),
                         ([(0, 0, (1,))], (1,), (0,), 2))

    def test_as_told(self):
        for net in GOOD + good_nets(131, 7):
            self.assertEqual(loom(net), plain_loom(net))

    def test_every_shape(self):
        for seed in (132, 133):
            for net in good_nets(seed):
                found = loom(net)
                order = loom_order(net)
                self.assertEqual(order, [root for place, turn, root in found])
                self.assertEqual(sorted(order), sorted(roots(net)))
                counts = turn_counts(net)
                spots = [(place, turn) for place, turn, root in found]
                self.assertEqual(sorted(spots), [(k, turn) for k in range(net.places) for turn in range(counts[k])])
                for place, turn, root in found:
                    self.assertEqual(spot_of(net, root), (place, turn))
                    if turn == 0:
                        self.assertEqual(root, first_web(net, 2, place).sizes)
                    if turn == counts[place] - 1:
                        self.assertEqual(root, last_web(net, 2, partners(net)[place]).sizes)
                for at, later in enumerate(order):
                    if net.places < 7 or at % 9 == 0:
                        self.assertFalse(any(maps_of_kinds(net, {later: 1}, {root: 1}) for root in order[:at]))

    def test_partners_and_rounds(self):
        draw = drawn(134)
        for seed in (135, 136):
            for net in good_nets(seed):
                name, places = shape(net)
                told = {"line": places + 1, "fork": 2 * places - 2,
                        "arms": {6: 12, 7: 18, 8: 30}.get(places)}[name]
                self.assertEqual(round_number(net), told)
                self.assertEqual(partners(net), told_partners(net))
                counts = turn_counts(net)
                for place, partner in enumerate(partners(net)):
                    self.assertEqual(counts[place] + counts[partner], told)
                rows = [unit(net, place) for place in range(places)]
                rows.append(tuple(draw.randrange(-5, 6) for _ in range(places)))
                led = rows
                for k in range(1, told + 1):
                    led = [shifted_row(net, row) for row in led]
                    self.assertIs(led == rows, k == told)

    def test_neighbours(self):
        for net in GOOD + good_nets(137):
            found = {(place, turn): root for place, turn, root in loom(net)}
            order = loom_order(net)
            after = {}
            for (place, turn), root in found.items():
                told = [found.get((a, turn)) for a, b in net.arrows if b == place]
                told += [found.get((b, turn + 1)) for a, b in net.arrows if a == place]
                told = sorted([other for other in told if other is not None], key=order.index)
                self.assertEqual(successors(net, root), told)
                after[root] = told
                self.assertEqual(next_root(net, root), found.get((place, turn + 1)))
                self.assertEqual(last_root(net, root), found.get((place, turn - 1)))
            for root in order:
                self.assertEqual(predecessors(net, root), [other for other in order if root in after[other]])

    def test_sums(self):
        def total(net, some):
            return tuple(sum(root[k] for root in some) for k in range(net.places))

        for net in GOOD + good_nets(138):
            opposite = partners(net)
            for place, turn, root in loom(net):
                ahead, behind = next_root(net, root), last_root(net, root)
                if ahead is not None:
                    self.assertEqual(ahead, unshifted_row(net, root))
                    self.assertEqual(total(net, [root, ahead]), total(net, successors(net, root)))
                else:
                    less = tuple(a - b for a, b in zip(root, unit(net, opposite[place])))
                    self.assertEqual(less, total(net, successors(net, root)))
                if behind is not None:
                    self.assertEqual(behind, shifted_row(net, root))
                    self.assertEqual(total(net, [root, behind]), total(net, predecessors(net, root)))
                else:
                    less = tuple(a - b for a, b in zip(root, unit(net, place)))
                    self.assertEqual(less, total(net, predecessors(net, root)))


class AheadTest(unittest.TestCase):

    def test_maps_ahead_of_least_webs(self):
        draw = drawn(139)
        for net in good_nets(140, 6):
            for prime in (2, 5):
                webs = {root: least_web(net, prime, root) for root in roots(net)}
                for root in draw.sample(roots(net), min(8, len(roots(net)))):
                    found = maps_ahead(net, root)
                    self.assertEqual(list(found), sorted(found))
                    told = {other: count_maps(webs[root], webs[other]) for other in sorted(webs)}
                    self.assertEqual(found, {other: many for other, many in told.items() if many})

    def test_told_by_the_loom_alone(self):
        draw = drawn(141)
        for net in GOOD + good_nets(142):
            order = loom_order(net)
            ahead = {root: predecessors(net, root) for root in order}
            last = {root: last_root(net, root) for root in order}
            for given in draw.sample(order, min(5, len(order))):
                many = {}
                for root in order:
                    many[root] = sum(many[other] for other in ahead[root]) - many.get(last[root], 0)
                    many[root] += int(root == given)
                self.assertEqual({root: many[root] for root in sorted(order) if many[root]}, maps_ahead(net, given))

    def test_joinings(self):
        for net in GOOD + good_nets(143, 6):
            for one in roots(net):
                for other in roots(net):
                    told = maps_ahead(net, other).get(last_root(net, one), 0)
                    self.assertEqual(joinings_of_kinds(net, {one: 1}, {other: 1}), told)

    def test_stands_before(self):
        for net in GOOD + good_nets(144, 6):
            after = {root: successors(net, root) for root in roots(net)}
            for one in roots(net):
                led, found = [one], {one}
                for root in led:
                    led += [other for other in after[root] if other not in found]
                    found.update(after[root])
                for other in roots(net):
                    self.assertIs(stands_before(net, one, other), other in found)
                    if maps_of_kinds(net, {one: 1}, {other: 1}):
                        self.assertIn(other, found)


class OrderTest(unittest.TestCase):

    def test_is_order(self):
        for net in (STEP, STRAIGHT):
            everything = roots(net)
            found = 0
            for order in permutations(everything):
                told = not any(maps_of_kinds(net, {later: 1}, {root: 1})
                               for at, later in enumerate(order) for root in order[:at])
                self.assertIs(is_order(net, order), told)
                self.assertIs(is_order(net=net, thing=list(order)), told)
                found += told
            self.assertGreater(found, 0)

    def test_no_orders(self):
        good = loom_order(STEP)
        self.assertIs(is_order(STEP, good), True)
        for thing in (None, 3, "", {}, set(), (), [], good[:2], good + good[:1], good[:2] + good[:1], good[::-1],
                      [list(root) for root in good], [(0, True)] + good[1:], [(0, 1.0)] + good[1:],
                      {root: 1 for root in good}, [None] * 3, [(0, 1), (1, 1), (2, 1)], STEP):
            self.assertIs(is_order(STEP, thing), False)
            self.assertRaises(NotSo, word_of_order, STEP, thing)

    def test_words_and_orders(self):
        draw = drawn(145)
        for net in GOOD + good_nets(146):
            counts = turn_counts(net)
            order = loom_order(net)
            self.assertTrue(is_order(net, order))
            self.assertEqual(order_of_word(net, word_of_order(net, order)), order)
            for _ in range(3):
                word, after = [], net
                while len(word) < sum(counts):
                    place = draw.choice([k for k in sinks(after) if word.count(k) < counts[k]])
                    word.append(place)
                    after = mirrored_net(after, place)
                found = order_of_word(net=net, word=word)
                self.assertEqual(found, [row_before(net, word[:k], unit(net, word[k])) for k in range(len(word))])
                self.assertTrue(is_order(net, found))
                self.assertEqual(word_of_order(net=net, order=found), word)
                self.assertEqual(order_of_word(net, tuple(word)), found)
                self.assertEqual(word_of_order(net, tuple(found)), word)

    def test_every_order_of_a_line(self):
        words, orders = set(), set()
        for order in permutations(roots(STRAIGHT)):
            if is_order(STRAIGHT, order):
                word = word_of_order(STRAIGHT, order)
                self.assertTrue(is_word(STRAIGHT, word))
                self.assertEqual(tuple(word.count(k) for k in range(3)), (1, 2, 3))
                self.assertEqual(order_of_word(STRAIGHT, word), list(order))
                orders.add(order)
                words.add(tuple(word))
        self.assertEqual(len(words), len(orders))
        self.assertEqual(words, {word for word in permutations((0, 1, 1, 2, 2, 2)) if is_word(STRAIGHT, word)})

    def test_no_words_of_orders(self):
        for word in ([], [1], [1, 0], [1, 0, 1, 0], (1, 1, 0), [1, 0, True], None, 3, [0, 1, 0], [1, 0, 2], "101"):
            self.assertRaises(NotSo, order_of_word, STEP, word)
        self.assertEqual(order_of_word(STEP, (1, 0, 1)), [(0, 1), (1, 1), (1, 0)])
        self.assertRaises(NotSo, order_of_word, STAR, word_with(STAR, (2, 2, 2, 2)))


class ErrorsTest(unittest.TestCase):

    def works(self, net, thing):
        return [lambda: spot_of(net, thing), lambda: next_root(net, thing), lambda: last_root(net, thing),
                lambda: successors(net, thing), lambda: predecessors(net, thing), lambda: maps_ahead(net, thing),
                lambda: stands_before(net, thing, thing)]

    def all_works(self, net):
        return self.works(net, None) + [
            lambda: loom(net), lambda: loom_order(net), lambda: turn_counts(net), lambda: partners(net),
            lambda: round_number(net), lambda: is_order(net, None), lambda: order_of_word(net, None),
            lambda: word_of_order(net, None)]

    def test_no_roots(self):
        for root in NO_ROOTS:
            for work in self.works(STEP, root):
                self.assertRaises(BadRow, work)
            self.assertRaises(BadRow, stands_before, STEP, (1, 1), root)
            self.assertRaises(BadRow, stands_before, STEP, root, (1, 1))

    def test_nets(self):
        for net in (PAIR, RING, FIVE, TRIPLE, arms_net((2, 2, 2))):
            for work in self.all_works(net):
                self.assertRaises(NotGood, work)
        for net in (None, 3, "line", ("line", 3)):
            for work in self.all_works(net):
                with self.assertRaises(BadNet) as caught:
                    work()
                self.assertIsNone(caught.exception.part)

    def test_naming_does_not_matter(self):
        draw = drawn(147)
        for _ in range(5):
            net = renamed(draw, ARMS_SIX)
            self.assertEqual(sorted(turn_counts(net))[0] + sorted(turn_counts(net))[-1], 12)
        self.assertEqual(turn_counts(Net(2, [(1, 0)])), (2, 1))


if __name__ == "__main__":
    unittest.main()
