"""Point [100]: parts of a web, what they are made of, and all of them."""

import unittest
import unittest.mock
from itertools import product

from boughwebs import parts
from boughwebs.maps import is_map, kernel_web, image_web
from boughwebs.nets import Net
from boughwebs.parts import (all_parts, carried, common_part, fetched, is_part, is_within, no_part, part_from, part_row,
                             part_sum, part_web, rest_of_part, whole_part)
from boughwebs.solving import kernel, left_over, rank, tidy
from boughwebs.tables import Table, across, beside, empty, plain, times
from boughwebs.webs import Web, bare
from tests.drawn import (CLASH, FIVE, NETS, ONE, PAIR, RING, SPREAD, STAR, STEP, STRAIGHT, all_tables, check_order,
                         drawn, drawn_map, drawn_sizes, drawn_table, drawn_web, error_of, of_other_kinds,
                         with_one_otherwise)


def is_tidy_plainly(table):
    return tidy(across(table)) == across(table) and rank(table) == table.wide


def is_part_plainly(web, tables):
    """Whether Tables as tall as the rooms are a part."""
    if not all(is_tidy_plainly(table) for table in tables):
        return False
    return all(rank(beside([tables[head], times(table, tables[tail])])) == tables[head].wide
               for table, (tail, head) in zip(web.tables, web.net.arrows))


def all_plainly(web):
    """All parts, found by trying all Tables."""
    rooms = [[table for wide in range(size + 1) for table in all_tables(web.prime, size, wide) if is_tidy_plainly(table)]
             for size in web.sizes]
    found = [tables for tables in product(*rooms) if is_part_plainly(web, tables)]
    return sorted(found, key=lambda part: (tuple(table.wide for table in part), tuple(table.lines for table in part)))


def small_webs(seed, many=2):
    draw = drawn(seed)
    for net in NETS:
        for _ in range(many):
            prime = draw.choice((2, 3))
            most = 2 if net.places < 4 else 1
            yield drawn_web(draw, net, prime, drawn_sizes(draw, net, most if prime == 2 else 1 if net.places > 2 else 2))


def spaces_of(prime, size):
    """All spaces of columns of this size, as sets of columns."""
    found, left = {frozenset([(0,) * size])}, [frozenset([(0,) * size])]
    while left:
        space = left.pop()
        for column in product(range(prime), repeat=size):
            if column not in space:
                more = frozenset(tuple((a + k * b) % prime for a, b in zip(some, column))
                                 for some in space for k in range(prime))
                if more not in found:
                    found.add(more)
                    left.append(more)
    return found


def count_plainly(web, most):
    """How many parts the web has, or the most if there are more: all choices of spaces, place by place."""
    known = {size: list(spaces_of(web.prime, size)) for size in set(web.sizes)}
    images = {}

    def led(at, space):
        if (at, space) not in images:
            lines = web.tables[at].lines
            images[at, space] = frozenset(tuple(sum(a * b for a, b in zip(line, column)) % web.prime for line in lines)
                                          for column in space)
        return images[at, space]

    def count(chosen, place):
        if place == web.net.places:
            return 1
        many = 0
        for space in known[web.sizes[place]]:
            some = chosen + [space]
            if all(led(at, some[tail]) <= some[head] for at, (tail, head) in enumerate(web.net.arrows)
                   if max(tail, head) == place):
                many += count(some, place + 1)
                if many >= most:
                    return most
        return many
    return count([], 0)


class PartTest(unittest.TestCase):

    def test_all_parts(self):
        for web in small_webs(931):
            found = all_parts(web=web)
            self.assertIs(type(found), list)
            self.assertEqual(found, all_plainly(web))
            self.assertEqual((found[0], found[-1]), (no_part(web=web), whole_part(web=web)))

    def test_greater_rooms(self):
        draw = drawn(940)
        for net, prime, sizes in ((ONE, 2, (3,)), (ONE, 3, (3,)), (STEP, 2, (3, 2)), (STEP, 2, (2, 3))):
            web = drawn_web(draw, net, prime, sizes)
            self.assertEqual(all_parts(web), all_plainly(web))
        for prime, size, many in ((2, 4, 67), (3, 4, 212), (5, 3, 64), (7, 3, 116), (2, 5, 374)):
            web = bare(ONE, prime, (size,))
            found = all_parts(web)
            self.assertEqual(len({part[0].lines for part in found}), many)
            self.assertEqual(len(found), many)
            self.assertTrue(all(is_part_plainly(web, part) for part in found))

    def test_is_part(self):
        for web in small_webs(932):
            parts = all_parts(web)
            for part in parts[:20]:
                self.assertIs(is_part(web=web, thing=part), True)
                self.assertEqual(part_row(web=web, part=part), tuple(table.wide for table in part))
                for thing in list(with_one_otherwise(part))[:8]:
                    self.assertIs(is_part(web, thing), is_part_plainly(web, thing))
            for thing in of_other_kinds(parts[-1]):
                self.assertIs(is_part(web, thing), False)
            self.assertIs(is_part(web, parts[-1][:-1]), False)

    def test_not_tidy(self):
        web = bare(ONE, 5, (2,))
        for lines, told in ((((1,), (3,)), True), (((2,), (1,)), False), (((0,), (1,)), True), (((0,), (0,)), False),
                            (((1, 0), (0, 1)), True), (((0, 1), (1, 0)), False), (((1, 0), (1, 1)), False)):
            self.assertIs(is_part(web, (Table(5, 2, len(lines[0]), lines),)), told)
        self.assertIs(is_part(web, (empty(5, 2, 0),)), True)
        self.assertIs(is_part(web, (empty(5, 3, 0),)), False)
        whole = Web(STEP, 5, (1, 1), [plain(5, 1)])
        told = [is_part(whole, (empty(5, 1, a) if a == 0 else plain(5, 1), empty(5, 1, b) if b == 0 else plain(5, 1)))
                for a in (0, 1) for b in (0, 1)]
        self.assertEqual(told, [True, True, False, True])

    def test_webs_of_parts(self):
        for web in small_webs(933):
            for part in all_parts(web)[:20]:
                some, into = part_web(web=web, part=part)
                self.assertEqual((some.sizes, into), (part_row(web, part), part))
                self.assertTrue(is_map(some, web, into))
                rest, onto = rest_of_part(web=web, part=part)
                self.assertEqual(onto, tuple(left_over(table) for table in part))
                self.assertTrue(is_map(web, rest, onto))
                self.assertEqual(tuple(a + b for a, b in zip(some.sizes, rest.sizes)), web.sizes)

    def test_part_from(self):
        draw = drawn(934)
        for web in small_webs(935):
            columns = [drawn_table(draw, web.prime, size, draw.randrange(3)) for size in web.sizes]
            found = part_from(web=web, columns=columns)
            self.assertIs(type(found), tuple)
            self.assertEqual(part_from(web, tuple(columns)), found)
            holding = [part for part in all_parts(web) if all(rank(beside([table, some])) == table.wide
                                                              for table, some in zip(part, columns))]
            self.assertIn(found, holding)
            self.assertTrue(all(is_within(web, found, part) for part in holding))
        # More columns than a Table can have lie together in a room.
        web = Web(STEP, 2, (60, 60), [plain(2, 60)])
        self.assertEqual(part_from(web, [plain(2, 60), plain(2, 60)]), whole_part(web))
        self.assertEqual(part_from(web, [empty(2, 60, 60), empty(2, 60, 0)]), no_part(web))
        web = bare(STEP, 3, (1, 2))
        good = [empty(3, 1, 2), empty(3, 2, 0)]
        self.assertIsNone(error_of(part_from, web, good))
        for wrong in (None, 3, good[:1], good + good, good[::-1], [good[0], None], [empty(5, 1, 2), good[1]], {},
                      [good[0], ((), ())]):
            self.assertEqual(error_of(part_from, web, wrong), ("BadTable",))
        self.assertEqual(error_of(part_from, None, None), ("BadWeb", None))

    def test_sum_and_common_part(self):
        draw = drawn(936)
        for web in small_webs(937):
            parts = all_parts(web)
            for _ in range(12):
                one, other = draw.choice(parts), draw.choice(parts)
                both = part_sum(web=web, one=one, other=other)
                common = common_part(web=web, one=one, other=other)
                above = [part for part in parts if is_within(web, one, part) and is_within(web, other, part)]
                below = [part for part in parts if is_within(web, part, one) and is_within(web, part, other)]
                self.assertTrue(both in above and common in below)
                self.assertTrue(all(is_within(web, both, part) for part in above))
                self.assertTrue(all(is_within(web, part, common) for part in below))
                rows = [part_row(web, part) for part in (one, other, both, common)]
                self.assertTrue(all(a + b == c + d for a, b, c, d in zip(*rows)))
                told = all(rank(beside([second, first])) == second.wide for first, second in zip(one, other))
                self.assertIs(is_within(web=web, one=one, other=other), told)
        web = bare(ONE, 2, (60,))
        self.assertEqual(part_sum(web, whole_part(web), whole_part(web)), whole_part(web))
        self.assertEqual(common_part(web, whole_part(web), whole_part(web)), whole_part(web))

    def test_carried_and_fetched(self):
        draw = drawn(938)
        for one in small_webs(939):
            other = drawn_web(draw, one.net, one.prime, drawn_sizes(draw, one.net, 1))
            mapping = drawn_map(draw, one, other)
            for part in all_parts(one)[:20]:
                found = carried(one=one, other=other, mapping=mapping, part=part)
                self.assertEqual(found, part_from(other, [times(a, b) for a, b in zip(mapping, part)]))
            parts = all_parts(one)
            for part in all_parts(other)[:20]:
                found = fetched(one=one, other=other, mapping=mapping, part=part)
                led = [some for some in parts if is_within(other, carried(one, other, mapping, some), part)]
                self.assertIn(found, led)
                self.assertTrue(all(is_within(one, some, found) for some in led))
            self.assertEqual(fetched(one, other, mapping, no_part(other)),
                             part_from(one, list(kernel_web(one, other, mapping)[1])))
            self.assertEqual(carried(one, other, mapping, whole_part(one)),
                             part_from(other, list(image_web(one, other, mapping)[1])))
            self.assertEqual([table.wide for table in fetched(one, other, mapping, no_part(other))],
                             [kernel(table).wide for table in mapping])

    def test_too_many_parts(self):
        # Along an arrow with the table 0, and in one room alone.
        for web, told in ((bare(STAR, 2, (2, 2, 2, 3)), 2000), (bare(FIVE, 2, (3, 3, 1, 1, 1)), None),
                          (bare(STAR, 2, (2, 2, 2, 2)), 625), (bare(ONE, 31, (3,)), 1988),
                          (bare(ONE, 37, (3,)), None), (bare(STEP, 2, (5, 2)), 1870), (bare(STEP, 2, (5, 3)), None),
                          (bare(ONE, 2, (5,)), 374), (bare(ONE, 2, (60,)), None), (bare(PAIR, 97, (60, 60)), None),
                          (bare(ONE, 97, (2,)), 100)):
            if told is None:
                self.assertEqual(error_of(all_parts, web), ("TooMany", 2000))
            else:
                self.assertEqual(len(all_parts(web)), told)
        chain = Web(RING, 2, (3, 3, 3), [plain(2, 3), plain(2, 3), plain(2, 3)])
        self.assertEqual(len(all_parts(chain)), len(all_plainly(chain)))

    def test_too_many_parts_are_known_of_soon(self):
        four = Net(4, [(0, 1), (1, 2), (2, 3)])
        draw = drawn(941)
        webs = [bare(STEP, 5, (4, 4)), bare(four, 2, (6, 3, 3, 2)), bare(four, 2, (4, 2, 3, 3)),
                Web(STEP, 5, (4, 4), [plain(5, 4)]), bare(STEP, 2, (60, 60)),
                Web(four, 2, (4, 4, 4, 4), [drawn_table(draw, 2, 4, 4) for _ in range(3)])]
        for web in webs:
            with unittest.mock.patch("boughwebs.parts._room_for", wraps=parts._room_for) as room_for:
                self.assertEqual(error_of(all_parts, web), ("TooMany", 2000))
            # Not a room for each of a thousand begun parts.
            self.assertLess(room_for.call_count, 100)

    def test_all_parts_near_the_limit(self):
        four = Net(4, [(0, 1), (1, 2), (2, 3)])
        draw = drawn(942)
        seen = 0
        for net, prime, sizes in ((STEP, 2, (4, 4)), (STEP, 3, (3, 3)), (four, 2, (3, 3, 3, 3)), (STRAIGHT, 2, (3, 4, 3)),
                                  (CLASH, 2, (3, 4, 3)), (SPREAD, 2, (3, 4, 3)), (STAR, 2, (2, 2, 2, 4)),
                                  (PAIR, 2, (4, 4)), (RING, 2, (3, 3, 3)), (STEP, 5, (2, 2))):
            for _ in range(12):
                web = drawn_web(draw, net, prime, sizes, draw.choice((0.2, 0.5, 0.8)))
                many = count_plainly(web, 2001)
                if many > 2000:
                    self.assertEqual(error_of(all_parts, web), ("TooMany", 2000))
                else:
                    found = all_parts(web)
                    self.assertEqual(len(found), many)
                    self.assertEqual(found, sorted(found, key=lambda part: (
                        tuple(table.wide for table in part), tuple(table.lines for table in part))))
                    self.assertEqual(len({tuple(table.lines for table in part) for part in found}), many)
                    seen += many > 500
        self.assertGreater(seen, 10)
        self.assertEqual(len(all_parts(bare(STAR, 2, (2, 2, 2, 3)))), 2000)
        self.assertEqual(len(all_parts(bare(STEP, 2, (5, 2)))), 1870)
        line = Net(8, [(k, k + 1) for k in range(7)])
        for place in range(8):
            sizes = tuple(3 if k == place else 0 for k in range(8))
            self.assertEqual(len(all_parts(bare(line, 31, sizes))), 1988)

    def test_errors_in_their_order(self):
        web = Web(STEP, 3, (1, 1), [plain(3, 1)])
        part = whole_part(web)
        wrong = [(plain(3, 1), empty(3, 1, 0)), list(part), None, part[:1], (plain(3, 1), plain(5, 1))]
        for work in (part_row, part_web, rest_of_part):
            for thing in wrong:
                check_order(self, work, {"web": web, "part": part}, [("web", 3, ("BadWeb", None)),
                                                                      ("part", thing, ("BadPart",))])
        for work in (part_sum, common_part, is_within):
            for thing in wrong:
                check_order(self, work, {"web": web, "one": part, "other": part}, [
                    ("web", None, ("BadWeb", None)), ("one", thing, ("BadPart",)), ("other", thing, ("BadPart",))])
        for work in (carried, fetched):
            check_order(self, work, {"one": web, "other": web, "mapping": part, "part": part}, [
                ("one", STEP, ("BadWeb", None)), ("other", None, ("BadWeb", None)),
                ("other", bare(PAIR, 3, (1, 1)), ("OtherNet",)), ("mapping", list(part), ("BadMaps",)),
                ("part", wrong[0], ("BadPart",))])
        for work in (no_part, whole_part, all_parts, lambda thing: is_part(thing, None)):
            self.assertEqual(error_of(work, None), ("BadWeb", None))
        # A part of one, or of other, as the map leads.
        both, line = bare(STEP, 3, (1, 1)), bare(STEP, 3, (2, 0))
        mapping = (empty(3, 2, 1), empty(3, 0, 1))
        self.assertEqual(error_of(carried, both, line, mapping, whole_part(line)), ("BadPart",))
        self.assertEqual(error_of(fetched, both, line, mapping, whole_part(both)), ("BadPart",))


if __name__ == "__main__":
    unittest.main()
