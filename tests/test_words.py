"""Points [54] and [55]: words of mirrors."""

import unittest
from itertools import permutations, product

from boughwebs.errors import BadNet, BadRow, BadWeb, NotSo, OtherNet, TooMany
from boughwebs.likeness import alike
from boughwebs.maps import count_maps
from boughwebs.mirrors import lost_points, mirrored, mirrored_net
from boughwebs.nets import Net, is_tree, sinks, turned_net
from boughwebs.roots import mirrored_row, pair_form
from boughwebs.tables import plain
from boughwebs.webs import Web, bare
from boughwebs.words import (is_word, net_after, row_after, row_before, shifted_row, shifted_web, sink_word,
                             unshifted_row, unshifted_web, web_after, web_before, word_to, word_with)
from tests.drawn import (ARMS_SIX, CLASH, FIVE, GOOD, NETS, ONE, PAIR, RING, SQUARE, STAR, STEP, STRAIGHT, TRIPLE,
                         arms_net, drawn, drawn_net, drawn_sizes, drawn_web, drawn_word, renamed)

NO_WORDS = (None, 3, "10", {}, {1: 0}, {1, 0}, [0], [1, 1], [1, 0, 0], [2], [-1], [True], [1, False], [1.0], ["1"],
            [None], [[1]], (1, 1), STEP)


def all_words(net, most):
    """All words of up to so many places, shortest first and ascending, with the nets behind them."""
    found = [([], net)]
    for word, after in found:
        if len(word) < most:
            found += [(word + [place], mirrored_net(after, place)) for place in sinks(after)]
    return found


def plain_after(net, word):
    for place in word:
        net = mirrored_net(net, place)
    return net


class WordTest(unittest.TestCase):

    def test_is_word(self):
        for word in ([], (), [1], (1,), [1, 0], (1, 0, 1), [1, 0, 1, 0, 1]):
            self.assertIs(is_word(STEP, word), True)
        self.assertIs(is_word(net=STEP, thing=[1]), True)
        for thing in NO_WORDS:
            self.assertIs(is_word(STEP, thing), False)
        self.assertIs(is_word(ONE, [0, 0, 0]), True)
        self.assertIs(is_word(STRAIGHT, [2, 1, 2, 0]), True)
        self.assertIs(is_word(STRAIGHT, [2, 1, 2, 1]), False)

    def test_just_the_words(self):
        for net in (STEP, CLASH, PAIR, RING, SQUARE):
            words = [tuple(word) for word, after in all_words(net, 5)]
            for length in range(6):
                for word in product(range(net.places), repeat=length):
                    self.assertIs(is_word(net, word), word in words)

    def test_four_hundred_and_one_more(self):
        draw = drawn(101)
        for net in (ONE, STEP, RING, FIVE, arms_net((1, 2, 4))):
            long = drawn_word(draw, net, 401)
            row = tuple(draw.randrange(-3, 4) for _ in range(net.places))
            self.assertIs(is_word(net, long[:400]), True)
            self.assertIs(is_word(net, tuple(long)), False)
            self.assertEqual(net_after(net, long[:400]), plain_after(net, long[:400]))
            self.assertEqual(row_before(net, long[:400], row_after(net, long[:400], row)), row)
            web = bare(net, 2, (0,) * net.places)
            self.assertEqual(web_after(web, long[:400]).net, plain_after(net, long[:400]))
            for work in (lambda: net_after(net, long), lambda: row_after(net, long, row),
                         lambda: row_before(net, long, row), lambda: web_after(web, long),
                         lambda: web_before(net, long, web)):
                self.assertRaises(NotSo, work)

    def test_nets_and_rows(self):
        draw = drawn(102)
        for net in NETS + [drawn_net(draw, draw.randrange(1, 9), draw.randrange(13)) for _ in range(20)]:
            word = drawn_word(draw, net, draw.randrange(30))
            before = list(word)
            row = tuple(draw.randrange(-9, 10) for _ in range(net.places))
            self.assertEqual(net_after(net, word), plain_after(net, word))
            self.assertEqual(net_after(net=net, word=tuple(word)), plain_after(net, word))
            led = row
            for place in word:
                led = mirrored_row(net, place, led)
            self.assertEqual(row_after(net=net, word=word, row=row), led)
            self.assertEqual(row_before(net=net, word=word, row=led), row)
            self.assertEqual(row_before(net, tuple(word), led), row)
            self.assertEqual(word, before)

    def test_webs(self):
        draw = drawn(103)
        for net in NETS:
            for _ in range(4):
                web = drawn_web(draw, net, 3, drawn_sizes(draw, net, 2))
                word = drawn_word(draw, net, draw.randrange(3 if net == TRIPLE else 8))
                led = web
                for place in word:
                    led = mirrored(led, place)
                self.assertEqual(web_after(web=web, word=word), led)
                back = led
                for place in reversed(word):
                    back = mirrored(back, place)
                self.assertEqual(web_before(net=net, word=tuple(word), web=led), back)
                self.assertEqual(back.net, net)

    def test_there_and_back(self):
        draw = drawn(104)
        seen = 0
        for net in GOOD[1:]:
            for _ in range(12):
                web = drawn_web(draw, net, 5, drawn_sizes(draw, net, 3))
                word = drawn_word(draw, net, 4)
                lost, led = 0, web
                for place in word:
                    lost += lost_points(led, place)
                    led = mirrored(led, place)
                back = web_before(net, word, led)
                # What one mirror has made is made again, number by number.
                self.assertEqual(web_after(web_before(net, word[:1], web_after(web, word[:1])), word[:1]),
                                 web_after(web, word[:1]))
                if not lost:
                    self.assertEqual(alike(back, web)[0], "map")
                    seen += 1
        self.assertGreater(seen, 8)

    def test_too_many_columns(self):
        wide = bare(Net(4, [(0, 3), (1, 3), (2, 3)]), 2, (30, 30, 30, 1))
        behind = bare(mirrored_net(wide.net, 3), 2, (30, 30, 30, 1))
        for work in (lambda: web_after(wide, [3]), lambda: web_before(wide.net, [3], behind),
                     lambda: shifted_web(wide), lambda: unshifted_web(behind)):
            with self.assertRaises(TooMany) as caught:
                work()
            self.assertEqual(caught.exception.most, 60)

    def test_errors_in_their_order(self):
        web = bare(STEP, 3, (1, 1))
        for word in NO_WORDS:
            for work in (lambda: net_after(STEP, word), lambda: row_after(STEP, word, None),
                         lambda: row_before(STEP, word, None), lambda: web_after(web, word),
                         lambda: web_before(STEP, word, bare(PAIR, 3, (1, 1)))):
                self.assertRaises(NotSo, work)
        for row in (None, [1, 1], (1,), (1, True), (1, 1, 1), "11"):
            self.assertRaises(BadRow, row_after, STEP, [1], row)
            self.assertRaises(BadRow, row_before, STEP, [1], row)
        for other in (web, bare(PAIR, 3, (1, 1)), bare(ONE, 3, (1,)), bare(Net(3, [(1, 0), (1, 2)]), 3, (1, 1, 1))):
            self.assertRaises(OtherNet, web_before, STEP, [1], other)
        self.assertEqual(web_before(STEP, [1], bare(turned_net(STEP), 3, (1, 1))).net, STEP)
        for net in (None, 3, web, [1]):
            for work in (lambda: is_word(net, None), lambda: net_after(net, None), lambda: row_after(net, None, None),
                         lambda: row_before(net, None, None), lambda: web_before(net, None, None),
                         lambda: word_with(net, None), lambda: word_to(net, None), lambda: word_to(STEP, net),
                         lambda: sink_word(net), lambda: shifted_row(net, None), lambda: unshifted_row(net, None)):
                with self.assertRaises(BadNet) as caught:
                    work()
                self.assertIsNone(caught.exception.part)
        for thing in (None, 3, STEP, [web]):
            for work in (lambda: web_after(thing, None), lambda: web_before(STEP, None, thing),
                         lambda: shifted_web(thing), lambda: unshifted_web(thing)):
                with self.assertRaises(BadWeb) as caught:
                    work()
                self.assertIsNone(caught.exception.part)


class ToldWordsTest(unittest.TestCase):

    def test_word_with_against_all_words(self):
        for net in (ONE, STEP, PAIR, CLASH, STRAIGHT, RING, SQUARE, STAR):
            words = {}
            for word, after in all_words(net, 6):
                words.setdefault(tuple(word.count(place) for place in range(net.places)), word)
            for counts in product(range(4), repeat=net.places):
                if sum(counts) <= 6:
                    told = word_with(net, counts)
                    self.assertEqual(told, words.get(counts))
                    self.assertIs(type(told), list if counts in words else type(None))
                    fact = all(counts[head] - counts[tail] in (0, 1) for tail, head in net.arrows)
                    self.assertIs(told is not None, fact)

    def test_fifty_and_one_more(self):
        for net in (ONE, STEP, RING, arms_net((1, 2, 4)), TRIPLE):
            found = word_with(net=net, counts=(50,) * net.places)
            self.assertTrue(is_word(net, found))
            self.assertEqual([found.count(place) for place in range(net.places)], [50] * net.places)
            if net in (ONE, STEP, TRIPLE, RING):
                self.assertEqual(found, sink_word(net) * 50)
            self.assertEqual(word_with(net, (0,) * net.places), [])
            for number in (51, -1, True, None, 1.0, "1"):
                self.assertRaises(BadRow, word_with, net, (50,) * (net.places - 1) + (number,))
        self.assertIsNone(word_with(STEP, (1, 0)))
        self.assertIsNone(word_with(STEP, (50, 48)))
        self.assertIsNone(word_with(STEP, (0, 2)))
        self.assertEqual(word_with(STEP, (0, 1)), [1])
        for counts in ([1, 1], (1,), (1, 1, 1), None, 3, "11"):
            self.assertRaises(BadRow, word_with, STEP, counts)

    def test_word_to_against_all_words(self):
        for net in (STEP, PAIR, CLASH, STRAIGHT, RING, SQUARE, STAR):
            nets = {}
            for word, after in all_words(net, 8):
                nets.setdefault(after.arrows, word)
            for turned in product((False, True), repeat=len(net.arrows)):
                arrows = tuple(arrow[::-1] if turn else arrow for arrow, turn in zip(net.arrows, turned))
                try:
                    other = Net(net.places, arrows)
                except BadNet:
                    continue
                self.assertEqual(word_to(net=net, other=other), nets.get(arrows))

    def test_word_to_on_trees(self):
        draw = drawn(105)
        for places in range(1, 9):
            for _ in range(8):
                net = drawn_net(draw, places, 0)
                other = Net(places, [draw.choice((arrow, arrow[::-1])) for arrow in net.arrows])
                word = word_to(net, other)
                self.assertEqual(net_after(net, word), other)
                counts = [word.count(place) for place in range(places)]
                self.assertEqual(min(counts), 0)
                self.assertEqual(word, word_with(net, tuple(counts)))
        self.assertEqual(word_to(ONE, ONE), [])

    def test_word_to_other_nets(self):
        self.assertIsNone(word_to(RING, Net(3, [(0, 1), (2, 1), (0, 2)])))
        self.assertEqual(word_to(RING, Net(3, [(0, 1), (2, 1), (2, 0)])), [2])
        self.assertEqual(word_to(STEP, Net(2, [(1, 0)])), [1])
        for other in (ONE, PAIR, STRAIGHT, CLASH):
            self.assertRaises(OtherNet, word_to, STEP, other)
        self.assertRaises(OtherNet, word_to, STRAIGHT, Net(3, [(1, 2), (0, 1)]))
        self.assertRaises(OtherNet, word_to, STRAIGHT, Net(3, [(0, 1), (0, 2)]))

    def test_equally_often_make_equal_webs(self):
        draw = drawn(106)
        for net in NETS:
            for _ in range(6):
                word = drawn_word(draw, net, draw.randrange(12))
                counts = [word.count(place) for place in range(net.places)]
                other, after = [], net
                while len(other) < len(word):
                    ready = [place for place in sinks(after) if other.count(place) < counts[place]]
                    other.append(draw.choice(ready))
                    after = mirrored_net(after, other[-1])
                self.assertEqual(net_after(net, word), net_after(net, other))
                web = drawn_web(draw, net, 3, drawn_sizes(draw, net, 2))
                try:
                    told = web_after(web, word)
                except TooMany:
                    self.assertRaises(TooMany, web_after, web, other)
                    continue
                self.assertEqual(web_after(web, other), told)
                self.assertEqual(web_before(net, other, told), web_before(net, word, told))


class ShiftedTest(unittest.TestCase):

    def test_sink_word(self):
        draw = drawn(107)
        for net in NETS + [drawn_net(draw, draw.randrange(1, 9), draw.randrange(13)) for _ in range(12)]:
            found = sink_word(net=net)
            self.assertIs(type(found), list)
            self.assertEqual(found, word_with(net, (1,) * net.places))
            self.assertEqual(net_after(net, found), net)
            if net.places < 6:
                self.assertEqual(found, min(list(word) for word in permutations(range(net.places))
                                            if is_word(net, word)))
        self.assertEqual(sink_word(STRAIGHT), [2, 1, 0])
        self.assertEqual(sink_word(STEP), [1, 0])

    def test_shifted(self):
        draw = drawn(108)
        for net in NETS:
            word = sink_word(net)
            row = tuple(draw.randrange(-5, 6) for _ in range(net.places))
            self.assertEqual(shifted_row(net=net, row=row), row_after(net, word, row))
            self.assertEqual(unshifted_row(net=net, row=row), row_before(net, word, row))
            self.assertEqual(unshifted_row(net, shifted_row(net, row)), row)
            web = drawn_web(draw, net, 3, drawn_sizes(draw, net, 2))
            self.assertEqual(shifted_web(web=web), web_after(web, word))
            self.assertEqual(unshifted_web(web=web), web_before(net, word, web))
            self.assertEqual(shifted_web(web).net, net)
        for row in (None, [1, 1], (1, True)):
            self.assertRaises(BadRow, shifted_row, STEP, row)
            self.assertRaises(BadRow, unshifted_row, STEP, row)

    def test_forms_of_trees(self):
        draw = drawn(109)
        five_arms = renamed(draw, arms_net((1, 1, 1, 1, 1)))
        trees = [net for net in NETS if is_tree(net)] + [five_arms, ARMS_SIX]
        trees += [drawn_net(draw, draw.randrange(2, 7), 0) for _ in range(10)]
        for net in trees:
            for prime in (2, 5):
                for _ in range(4):
                    one, other = [drawn_web(draw, net, prime, drawn_sizes(draw, net, 2)) for _ in range(2)]
                    less = count_maps(other, shifted_web(one))
                    self.assertEqual(pair_form(net, one.sizes, other.sizes), count_maps(one, other) - less)
                    self.assertEqual(less, count_maps(unshifted_web(other), one))

    def test_shifted_by_hand(self):
        one = Web(STEP, 5, (1, 1), [plain(5, 1)])
        self.assertEqual(shifted_web(one), bare(STEP, 5, (0, 0)))
        self.assertEqual(unshifted_web(one), bare(STEP, 5, (0, 0)))
        self.assertEqual(shifted_web(bare(STEP, 5, (1, 0))), bare(STEP, 5, (0, 1)))
        self.assertEqual(unshifted_web(bare(STEP, 5, (0, 1))), bare(STEP, 5, (1, 0)))
        self.assertEqual(shifted_row(STEP, (1, 1)), (-1, 0))
        self.assertEqual(shifted_row(STEP, (1, 0)), (0, 1))
        self.assertEqual(unshifted_row(STEP, (1, 1)), (0, -1))


if __name__ == "__main__":
    unittest.main()
