"""Points [160], [161], [162]: the live loft, its deeds and its log, own maps, told kinds, loosenings."""

import unittest

from boughwebs.errors import NothingDone, WebError
from boughwebs.loft import Loft, is_loosening, loosening, own, owns, told_kind
from boughwebs.maps import count_maps
from boughwebs.mirrors import mirrored
from boughwebs.nets import is_tree, sinks, sources
from boughwebs.parts import all_parts, no_part, part_row, part_web, rest_of_part, whole_part
from boughwebs.roots import shape
from boughwebs.splits import kind_of, whole_of
from boughwebs.tables import Table, empty, plain
from boughwebs.webs import Web, bare, changed, sum_of
from tests.drawn import (CLASH, FIVE, GOOD, NETS, ONE, PAIR, RING, STEP, STRAIGHT, check_order, drawn, drawn_sizes,
                         drawn_table, drawn_web, drawn_whole, error_of, of_other_kinds)

WEB = Web(STEP, 3, (1, 2), [Table(3, 2, 1, [[1], [2]])])
NO_LOFTS = [None, 3, WEB, STEP, (), "loft", [WEB], {}]


def state(loft):
    """All that is told of a loft."""
    return (loft.first, loft.web, loft.log(), len(loft))


def is_bare(web):
    return not any(number for table in web.tables for line in table.lines for number in line)


def some_part(draw, web):
    try:
        return draw.choice(all_parts(web))
    except WebError:
        return draw.choice((no_part(web), whole_part(web)))


def drawn_deed(draw, web):
    """A deed that can be done with the web, as the log tells it."""
    net = web.net
    words = ["turn", "loosen", "add", "keep", "lose", "mirror", "put", "fade"]
    if shape(net)[0] in ("line", "fork", "arms"):
        words.append("settle")
    word = draw.choice(words)
    if word == "add":
        return (word, drawn_web(draw, net, web.prime, drawn_sizes(draw, net, 1)))
    if word == "turn":
        return (word, tuple(drawn_whole(draw, web.prime, size) for size in web.sizes))
    if word in ("loosen", "keep", "lose"):
        return (word, some_part(draw, web))
    if word == "mirror":
        return (word, draw.choice(sinks(net) + sources(net)))
    if word == "settle" or not net.arrows:
        return ("loosen", no_part(web)) if word != "settle" else (word,)
    at = draw.randrange(len(net.arrows))
    old = web.tables[at]
    return (word, at, drawn_table(draw, web.prime, old.tall, old.wide)) if word == "put" else (word, at)


def web_behind(web, deed):
    """What a deed makes of a web, by the definition."""
    word = deed[0]
    if word == "add":
        return sum_of([web, deed[1]])
    if word == "turn":
        return changed(web, list(deed[1]))
    if word in ("put", "fade"):
        tables = list(web.tables)
        old = tables[deed[1]]
        tables[deed[1]] = deed[2] if word == "put" else empty(web.prime, old.tall, old.wide)
        return Web(web.net, web.prime, web.sizes, tables)
    if word == "loosen":
        return sum_of([part_web(web, deed[1])[0], rest_of_part(web, deed[1])[0]])
    if word == "keep":
        return part_web(web, deed[1])[0]
    if word == "lose":
        return rest_of_part(web, deed[1])[0]
    return mirrored(web, deed[1]) if word == "mirror" else whole_of(web.net, web.prime, kind_of(web))


def do(loft, deed):
    return getattr(loft, deed[0])(*deed[1:])


def led_lofts(seed, many=6, nets=NETS):
    """Lofts on which some deeds have been done, with these deeds."""
    draw = drawn(seed)
    for net in nets:
        for _ in range(2):
            loft = Loft(drawn_web(draw, net, draw.choice((2, 3, 5)), drawn_sizes(draw, net, 2)))
            deeds = []
            for _ in range(many):
                if max(loft.web.sizes) < 5:
                    deeds.append(drawn_deed(draw, loft.web))
                    do(loft, deeds[-1])
            yield draw, loft, deeds


class DeedsTest(unittest.TestCase):

    def test_a_new_loft(self):
        loft = Loft(web=WEB)
        self.assertEqual(state(loft), (WEB, WEB, [], 0))
        for wrong in (None, 3, STEP, Table(3, 1, 1, [[1]]), "web", Loft(WEB)):
            self.assertEqual(error_of(Loft, wrong), ("BadWeb", None))
        with self.assertRaises(TypeError):
            iter(loft)

    def test_each_deed_by_the_definition(self):
        draw = drawn(1601)
        seen = set()
        for net in NETS:
            for _ in range(12):
                web = drawn_web(draw, net, draw.choice((2, 3, 97)), drawn_sizes(draw, net, 1 + (net.places < 4)))
                loft = Loft(web)
                deed = drawn_deed(draw, web)
                self.assertIsNone(do(loft, deed))
                seen.add(deed[0])
                self.assertEqual(state(loft), (web, web_behind(web, deed), [deed], 1))
                self.assertIsNone(loft.undo())
                self.assertEqual(state(loft), (web, web, [], 0))
        self.assertEqual(seen, {"add", "turn", "put", "fade", "loosen", "keep", "lose", "mirror", "settle"})

    def test_by_name(self):
        loft = Loft(WEB)
        self.assertIsNone(loft.add(other=WEB))
        self.assertIsNone(loft.turn(coordinates=[plain(3, 2), plain(3, 4)]))
        self.assertIsNone(loft.put(at=0, table=empty(3, 4, 2)))
        self.assertIsNone(loft.fade(at=0))
        part = whole_part(loft.web)
        self.assertIsNone(loft.loosen(part=part))
        self.assertIsNone(loft.keep(part=whole_part(loft.web)))
        self.assertIsNone(loft.lose(part=no_part(loft.web)))
        self.assertIsNone(loft.mirror(place=1))
        self.assertEqual(loft.attempt(work=len), 8)

    def test_deeds_and_undo_down_to_the_first_web(self):
        for draw, loft, deeds in led_lofts(1602):
            webs = [loft.first]
            for deed in deeds:
                webs.append(web_behind(webs[-1], deed))
            while deeds:
                self.assertEqual(state(loft), (webs[0], webs[-1], deeds, len(deeds)))
                loft.undo()
                webs.pop()
                deeds.pop()
            self.assertEqual(error_of(loft.undo), ("NothingDone",))
            self.assertEqual(state(loft), (webs[0], webs[0], [], 0))

    def test_undo_and_more_deeds(self):
        loft = Loft(WEB)
        loft.fade(0)
        loft.undo()
        loft.add(WEB)
        loft.undo()
        loft.settle()
        self.assertEqual(loft.log(), [("settle",)])
        loft.undo()
        with self.assertRaises(NothingDone):
            loft.undo()
        self.assertEqual(loft.web, WEB)

    def refused(self, loft, told, work, *arguments):
        before = state(loft)
        self.assertEqual(error_of(work, *arguments), told)
        self.assertEqual(state(loft), before)

    def test_deeds_that_are_refused_change_nothing(self):
        loft = Loft(WEB)
        loft.add(WEB)
        part = no_part(loft.web)
        for wrong in (None, 3, STEP, Loft(WEB), "web"):
            self.refused(loft, ("BadWeb", None), loft.add, wrong)
        for other in (bare(PAIR, 3, (60, 60)), bare(STEP, 2, (60, 60)), bare(ONE, 3, (1,))):
            self.refused(loft, ("OtherNet",), loft.add, other)
        self.refused(loft, ("BadWeb", "sizes"), loft.add, bare(STEP, 3, (59, 0)))
        self.refused(loft, ("BadWeb", "sizes"), loft.add, bare(STEP, 3, (0, 57)))
        good = [plain(3, 2), plain(3, 4)]
        for wrong in (None, good[:1], good[::-1], good + good[:1], [empty(3, 2, 2), good[1]], [plain(5, 2), good[1]],
                      {}, "ab", [None, None], good[0]):
            self.refused(loft, ("BadMaps",), loft.turn, wrong)
        for at in (None, -1, 1, True, 0.0, "0", (0,)):
            self.refused(loft, ("BadNumber", "at"), loft.put, at, empty(3, 4, 2))
            self.refused(loft, ("BadNumber", "at"), loft.put, at, None)
            self.refused(loft, ("BadNumber", "at"), loft.fade, at)
        for wrong in (None, empty(3, 2, 4), empty(5, 4, 2), empty(3, 4, 3), [[0, 0]] * 4, 3):
            self.refused(loft, ("BadTable",), loft.put, 0, wrong)
        for wrong in (None, list(part), part[:1], (plain(3, 2), empty(3, 4, 0)), (empty(5, 2, 0), empty(5, 4, 0)),
                      (Table(3, 2, 1, [[2], [0]]), plain(3, 4)), 3):
            for work in (loft.loosen, loft.keep, loft.lose):
                self.refused(loft, ("BadPart",), work, wrong)
        for wrong in (None, -1, 2, True, 1.0, "1"):
            self.refused(loft, ("BadPlace",), loft.mirror, wrong)
        self.refused(Loft(bare(STRAIGHT, 2, (1, 1, 1))), ("NotSo",), Loft(bare(STRAIGHT, 2, (1, 1, 1))).mirror, 1)
        great = Loft(bare(CLASH, 2, (31, 1, 30)))
        self.refused(great, ("TooMany", 60), great.mirror, 1)
        for net in (PAIR, RING, FIVE):
            other = Loft(bare(net, 2, (1,) * net.places))
            self.refused(other, ("NotGood",), other.settle)
        self.refused(Loft(WEB), ("NothingDone",), Loft(WEB).undo)

    def test_errors_in_their_order(self):
        loft = Loft(WEB)
        check_order(self, loft.put, {"at": 0, "table": empty(3, 2, 1)}, [
            ("at", 1, ("BadNumber", "at")), ("table", None, ("BadTable",))])

    def test_a_mirror_makes_another_net(self):
        loft = Loft(WEB)
        loft.mirror(1)
        self.assertEqual(loft.web.net.arrows, ((1, 0),))
        self.assertEqual(error_of(loft.add, WEB), ("OtherNet",))
        self.assertIsNone(error_of(loft.add, bare(loft.web.net, 3, (1, 1))))
        self.assertEqual(loft.first, WEB)

    def test_settle(self):
        draw = drawn(1603)
        for net in GOOD:
            web = drawn_web(draw, net, 3, drawn_sizes(draw, net, 3))
            loft = Loft(web)
            loft.settle()
            self.assertEqual(loft.web, whole_of(net, 3, kind_of(web)))
            self.assertEqual(loft.log(), [("settle",)])

    def test_lists_that_are_passed_and_changed_afterwards(self):
        loft = Loft(WEB)
        coordinates = [plain(3, 1), plain(3, 2)]
        loft.turn(coordinates)
        coordinates.append(None)
        coordinates[0] = None
        self.assertEqual(loft.log(), [("turn", (plain(3, 1), plain(3, 2)))])
        self.assertIs(type(loft.log()[0][1]), tuple)
        told = loft.log()
        told.append(("fade", 0))
        told[0] = None
        self.assertEqual(loft.log(), [("turn", (plain(3, 1), plain(3, 2)))])
        self.assertEqual(len(loft), 1)


class Stop(Exception):
    """What a test's work raises."""


class AttemptTest(unittest.TestCase):

    def test_work_that_ends(self):
        loft = Loft(WEB)

        def work(given):
            self.assertIs(given, loft)
            given.add(WEB)
            given.fade(0)
            return [1]
        self.assertEqual(loft.attempt(work), [1])
        self.assertEqual(loft.log(), [("add", WEB), ("fade", 0)])
        self.assertIsNone(loft.attempt(lambda given: given.undo()))
        self.assertEqual(loft.log(), [("add", WEB)])

    def test_work_that_raises(self):
        for error in (Stop, ValueError, KeyboardInterrupt, ZeroDivisionError, NothingDone):
            loft = Loft(WEB)
            loft.add(WEB)
            loft.fade(0)
            before = state(loft)
            raised = error("told")

            def work(given):
                given.undo()
                given.undo()
                given.settle()
                given.mirror(1)
                given.add(given.web)
                raise raised
            with self.assertRaises(error) as caught:
                loft.attempt(work)
            self.assertIs(caught.exception, raised)
            self.assertEqual(state(loft), before)
            loft.undo()
            self.assertEqual(loft.log(), [("add", WEB)])

    def test_a_deed_that_is_refused_within(self):
        loft = Loft(WEB)

        def work(given):
            given.fade(0)
            given.fade(1)
        self.assertEqual(error_of(loft.attempt, work), ("BadNumber", "at"))
        self.assertEqual(state(loft), (WEB, WEB, [], 0))

        def careful(given):
            given.fade(0)
            return error_of(given.fade, 1)
        self.assertEqual(loft.attempt(careful), ("BadNumber", "at"))
        self.assertEqual(loft.log(), [("fade", 0)])

    def test_nested_ones(self):
        loft = Loft(WEB)
        seen = []

        def inner(given):
            given.undo()
            given.mirror(1)
            seen.append(len(given))
            raise Stop

        def outer(given):
            given.fade(0)
            try:
                given.attempt(inner)
            except Stop:
                seen.append(given.log())
            given.add(WEB)
            return given.attempt(lambda some: some.attempt(len))
        self.assertEqual(loft.attempt(outer), 2)
        self.assertEqual(seen, [1, [("fade", 0)]])
        self.assertEqual(loft.log(), [("fade", 0), ("add", WEB)])

        def failing(given):
            given.attempt(lambda some: some.settle())
            self.assertEqual(len(given), 3)
            given.attempt(inner)
        with self.assertRaises(Stop):
            loft.attempt(failing)
        self.assertEqual(loft.log(), [("fade", 0), ("add", WEB)])

    def test_what_cannot_be_called(self):
        loft = Loft(WEB)
        loft.fade(0)
        with self.assertRaises(TypeError):
            loft.attempt(None)
        self.assertEqual(loft.log(), [("fade", 0)])


class LogTest(unittest.TestCase):

    def test_copies(self):
        for draw, loft, deeds in led_lofts(1611):
            copy = loft.copy()
            self.assertEqual(state(copy), state(loft))
            self.assertTrue(copy == loft and not copy != loft)
            again = Loft(loft.first)
            for deed in loft.log():
                do(again, deed)
            self.assertEqual(again, loft)
            self.assertEqual(state(again), state(loft))
            before = state(loft)
            copy.add(copy.web)
            self.assertEqual(state(loft), before)
            self.assertFalse(copy == loft)
            copy.undo()
            self.assertEqual(copy, loft)
            if deeds:
                copy.undo()
                self.assertNotEqual(copy, loft)
                self.assertEqual(state(loft), before)

    def test_equal_to_what(self):
        one, other = Loft(WEB), Loft(Web(STEP, 3, (1, 2), [Table(3, 2, 1, [[4], [2]])]))
        self.assertEqual(one, other)
        self.assertNotEqual(one, Loft(bare(STEP, 3, (1, 2))))
        one.turn([plain(3, 1), plain(3, 2)])
        self.assertNotEqual(one, other)
        other.turn((plain(3, 1), plain(3, 2)))
        self.assertEqual(one, other)
        # The same web by another log.
        one.undo()
        one.put(0, WEB.tables[0])
        self.assertEqual(one.web, other.web)
        self.assertNotEqual(one, other)
        for thing in NO_LOFTS:
            self.assertFalse(one == thing)
            self.assertFalse(thing == one)


class OwnTest(unittest.TestCase):

    def test_own_and_owns(self):
        for draw, loft, deeds in led_lofts(1612, 4):
            if sum(size * size for size in loft.web.sizes) > 300:
                continue
            self.assertEqual(own(loft=loft), count_maps(loft.web, loft.web))
            webs = [loft.first]
            for deed in deeds:
                webs.append(web_behind(webs[-1], deed))
            if all(sum(size * size for size in web.sizes) <= 300 for web in webs):
                self.assertEqual(owns(loft=loft), [count_maps(web, web) for web in webs])

    def test_too_many(self):
        loft = Loft(bare(STEP, 2, (10, 15)))
        self.assertEqual(error_of(own, loft), ("TooMany", 300))
        self.assertEqual(error_of(owns, loft), ("TooMany", 300))
        loft.keep(no_part(loft.web))
        self.assertEqual(own(loft), 0)
        self.assertEqual(error_of(owns, loft), ("TooMany", 300))
        self.assertEqual(owns(Loft(bare(STEP, 2, (10, 14)))), [296])

    def test_what_rises(self):
        draw = drawn(1613)
        for net in NETS:
            for _ in range(6):
                web = drawn_web(draw, net, 2, drawn_sizes(draw, net, 2 if net.places < 5 else 1))
                loft = Loft(web)
                for _ in range(4):
                    deed = drawn_deed(draw, loft.web)
                    if deed[0] in ("loosen", "fade", "turn"):
                        ahead, old = own(loft), loft.web
                        do(loft, deed)
                        self.assertTrue(own(loft) >= ahead)
                        if deed[0] == "turn":
                            self.assertEqual(own(loft), ahead)
                        if deed[0] == "fade" and is_tree(net):
                            self.assertEqual(own(loft) > ahead, old.tables[deed[1]] != loft.web.tables[deed[1]])
                        if shape(net)[0] in ("line", "fork", "arms"):
                            self.assertEqual(own(loft) == ahead, kind_of(loft.web) == kind_of(old))

    def test_no_lofts(self):
        for wrong in NO_LOFTS:
            for work in (own, owns, told_kind, loosening, lambda loft: is_loosening(loft, [])):
                self.assertEqual(error_of(work, wrong), ("BadLoft",))


class ToldKindTest(unittest.TestCase):

    def test_behind_every_deed(self):
        for draw, loft, deeds in led_lofts(1614, 8, GOOD):
            while True:
                self.assertEqual(told_kind(loft=loft), kind_of(loft.web))
                self.assertEqual(list(told_kind(loft)), sorted(told_kind(loft)))
                if not len(loft):
                    break
                loft.undo()

    def test_two_mirrors_leave_the_kind_without_points(self):
        draw = drawn(1615)
        for net in GOOD:
            for _ in range(5):
                loft = Loft(drawn_web(draw, net, 3, drawn_sizes(draw, net, 3)))
                place = draw.choice(sinks(net) + sources(net))
                ahead = told_kind(loft)
                loft.mirror(place)
                loft.mirror(place)
                unit = tuple(int(k == place) for k in range(net.places))
                self.assertEqual(told_kind(loft), {root: ahead[root] for root in ahead if root != unit})

    def test_nets_that_are_not_good(self):
        for net in (PAIR, RING, FIVE):
            loft = Loft(bare(net, 2, (1,) * net.places))
            self.assertEqual(error_of(told_kind, loft), ("NotGood",))
            loft.fade(0)
            loft.mirror(sinks(net)[0])
            self.assertEqual(error_of(told_kind, loft), ("NotGood",))

    def test_what_is_told_is_new(self):
        loft = Loft(WEB)
        loft.turn([plain(3, 1), plain(3, 2)])
        found = told_kind(loft)
        found.clear()
        self.assertEqual(told_kind(loft), kind_of(WEB))


def is_loosening_plainly(web, parts):
    for part in parts:
        try:
            after = web_behind(web, ("loosen", part))
        except WebError:
            return False
        if count_maps(after, after) <= count_maps(web, web):
            return False
        web = after
    return is_bare(web)


class LooseningTest(unittest.TestCase):

    def webs(self, seed, many=6):
        draw = drawn(seed)
        for net in NETS:
            for _ in range(many):
                most = 3 if net.places < 4 else 2 if net.places < 6 else 1
                yield draw, drawn_web(draw, net, draw.choice((2, 3)), drawn_sizes(draw, net, most), 0.5)

    def test_judged(self):
        for draw, web in self.webs(1621):
            loft = Loft(web)
            found = loosening(loft=loft)
            self.assertIs(type(found), list)
            self.assertTrue(is_loosening_plainly(web, found))
            self.assertIs(is_loosening(loft=loft, thing=found), True)
            self.assertIs(is_loosening(loft, tuple(found)), True)
            self.assertEqual(loosening(loft.copy()), found)
            self.assertEqual(found == [], is_bare(web))
            self.assertEqual(state(loft), (web, web, [], 0))

    def test_otherwise(self):
        seen = 0
        for draw, web in self.webs(1622):
            loft = Loft(web)
            found = loosening(loft)
            if found:
                seen += 1
                for thing in (found[:-1], found + [no_part(web)], [whole_part(web)] + found, found + found[-1:],
                              found[1:], [None] + found, [list(found[0])] + found[1:]):
                    self.assertIs(is_loosening(loft, thing), is_loosening_plainly(web, thing), thing)
                self.assertIs(is_loosening(loft, []), False)
                self.assertIs(is_loosening(loft, ()), False)
                for thing in of_other_kinds(found[:2], (0,)):
                    if not isinstance(thing, (list, tuple)) or not all(isinstance(part, tuple) for part in thing):
                        self.assertIs(is_loosening(loft, thing), False)
            for part in all_parts(web)[:8]:
                self.assertIs(is_loosening(loft, [part]), is_loosening_plainly(web, [part]))
            self.assertIs(is_loosening(loft, None), False)
        self.assertGreater(seen, 20)

    def test_nothing_to_loosen(self):
        for net in NETS:
            loft = Loft(bare(net, 5, (2,) * net.places))
            self.assertEqual(loosening(loft), [])
            for thing in ([], ()):
                self.assertIs(is_loosening(loft, thing), True)
            for thing in (None, "", {}, 0, [no_part(loft.web)]):
                self.assertIs(is_loosening(loft, thing), False)

    def test_of_the_web_that_stands(self):
        loft = Loft(WEB)
        found = loosening(loft)
        self.assertEqual(part_row(WEB, found[0]), (0, 2))
        for part in found:
            loft.loosen(part)
        self.assertEqual((loosening(loft), is_loosening(loft, []), is_loosening(loft, found)), ([], True, False))

    def test_too_many(self):
        loft = Loft(bare(STEP, 2, (10, 15)))
        self.assertEqual(loosening(loft), [])
        for thing in ([], [no_part(loft.web)], ()):
            self.assertEqual(error_of(is_loosening, loft, thing), ("TooMany", 300))
        great = Loft(Web(STEP, 2, (60, 60), [plain(2, 60)]))
        self.assertEqual([part_row(great.web, part) for part in loosening(great)], [(0, 60)])


if __name__ == "__main__":
    unittest.main()
