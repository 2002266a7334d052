"""Point [70]: partings."""

import unittest

from boughwebs.errors import BadMaps, BadWeb
from boughwebs.maps import behind, is_alike, is_map, maps
from boughwebs.partings import is_parted, parted
from boughwebs.solving import inverse, is_whole, rank
from boughwebs.tables import Table, beside, corner, empty, minus, plain, scaled, times
from boughwebs.webs import Web, bare, changed, sum_of
from tests.drawn import NETS, ONE, PAIR, RING, STEP, STRAIGHT, drawn, drawn_map, drawn_sizes, drawn_web, drawn_whole


def drawn_turns(seed):
    """Webs on good and other nets, with maps to themselves that are 0, have an inverse, or are any."""
    draw = drawn(seed)
    for net in NETS:
        for prime in (2, 3, 7):
            web = drawn_web(draw, net, prime, drawn_sizes(draw, net, 2))
            both = sum_of([web, web, drawn_web(draw, net, prime, drawn_sizes(draw, net, 1))])
            both = changed(both, [drawn_whole(draw, prime, size) for size in both.sizes])
            for one in (web, both):
                yield draw, one, tuple(empty(prime, size, size) for size in one.sizes)
                yield draw, one, tuple(plain(prime, size) for size in one.sizes)
                for _ in range(3):
                    yield draw, one, drawn_map(draw, one, one)


def often(table, many):
    found = plain(table.prime, table.tall)
    for _ in range(many):
        found = times(found, table)
    return found


def cut(table, top, left, tall, wide):
    return Table(table.prime, tall, wide, [line[left:left + wide] for line in table.lines[top:top + tall]])


def is_plainly_parted(web, turn, firm, fading, way):
    """Whether these webs and this way part the web, by the words of the document."""
    if not is_alike(sum_of([firm, fading]), web, way):
        return False
    for table, columns, size in zip(turn, way, firm.sizes):
        rest = table.tall - size
        led = times(inverse(columns), times(table, columns))
        keeps, fades = cut(led, 0, 0, size, size), cut(led, size, size, rest, rest)
        if led != corner([keeps, fades]) or not is_whole(keeps) or often(fades, table.tall) != empty(web.prime, rest, rest):
            return False
    return True


class PartedTest(unittest.TestCase):

    def test_as_told(self):
        seen = {"firm": 0, "fading": 0, "both": 0}
        for draw, web, turn in drawn_turns(171):
            found = parted(web=web, turn=turn)
            self.assertIs(type(found), tuple)
            firm, fading, way = found
            self.assertEqual(parted(web, turn), found)
            self.assertTrue(is_plainly_parted(web, turn, firm, fading, way))
            self.assertIs(is_parted(web=web, turn=turn, thing=found), True)
            most = max(web.sizes)
            for place, table in enumerate(turn):
                self.assertEqual(firm.sizes[place], rank(often(table, most)))
                self.assertEqual(firm.sizes[place] + fading.sizes[place], web.sizes[place])
            seen["both" if any(firm.sizes) and any(fading.sizes) else "firm" if any(firm.sizes) else "fading"] += 1
        self.assertGreater(min(seen.values()), 20)

    def test_what_the_columns_span(self):
        # Whatever the coordinates, the firm columns span the same, and the fading ones.
        for draw, web, turn in drawn_turns(172):
            firm, fading, way = parted(web, turn)
            turned = [drawn_whole(draw, web.prime, size) for size in web.sizes]
            other = changed(web, turned)
            led = tuple(times(times(a, table), inverse(a)) for a, table in zip(turned, turn))
            for columns, others, a, size in zip(way, parted(other, led)[2], turned, firm.sizes):
                rest = columns.wide - size
                for left, wide in ((0, size), (size, rest)):
                    one = times(a, cut(columns, 0, left, columns.tall, wide))
                    two = cut(others, 0, left, columns.tall, wide)
                    self.assertEqual(rank(beside([one, two])), wide)

    def test_by_hand(self):
        web = Web(STEP, 5, (2, 2), [plain(5, 2)])
        table = Table(5, 2, 2, [[3, 3], [0, 0]])
        firm, fading, way = parted(web, (table, table))
        self.assertEqual((firm.sizes, fading.sizes), ((1, 1), (1, 1)))
        self.assertEqual([rank(some) for some in firm.tables + fading.tables], [1, 1])
        for columns in way:
            self.assertEqual(columns.lines[1][0], 0)
            self.assertEqual(sum(line[1] for line in columns.lines) % 5, 0)
        knot = Table(5, 2, 2, [[0, 1], [0, 0]])
        self.assertEqual(parted(web, (knot, knot))[0].sizes, (0, 0))
        nothing = bare(STEP, 5, (0, 0))
        none = (empty(5, 0, 0), empty(5, 0, 0))
        self.assertEqual(parted(nothing, none), (nothing, nothing, none))
        self.assertTrue(is_parted(nothing, none, (nothing, nothing, none)))

    def test_long_fading(self):
        size = 33
        shift = Table(2, size, size, [[int(k == at + 1) for k in range(size)] for at in range(size)])
        web = bare(ONE, 2, (size,))
        firm, fading, way = parted(web, (shift,))
        self.assertEqual((firm.sizes, fading.sizes), ((0,), (size,)))
        self.assertTrue(is_parted(web, (shift,), (firm, fading, way)))
        self.assertFalse(is_parted(web, (shift,), (fading, firm, way)))

    def test_one_thing_otherwise(self):
        seen = {True: 0, False: 0}
        for draw, web, turn in drawn_turns(173):
            firm, fading, way = parted(web, turn)
            things = [(fading, firm, way), (firm, fading, tuple(scaled(table, 2) for table in way)),
                      (firm, fading, tuple(scaled(table, 0) for table in way)), (firm, firm, way),
                      (sum_of([firm, fading]), bare(web.net, web.prime, (0,) * web.net.places), way),
                      (bare(web.net, web.prime, (0,) * web.net.places), sum_of([firm, fading]), way)]
            around = maps(web, web)
            for other in around[:4]:
                things.append((firm, fading, behind(way, other)))
            if any(firm.sizes):
                things.append((changed(firm, [drawn_whole(draw, web.prime, size) for size in firm.sizes]), fading, way))
            for place, table in enumerate(way):
                if table.tall > 1:
                    exchanged = Table(table.prime, table.tall, table.wide, [line[::-1] for line in table.lines])
                    things.append((firm, fading, way[:place] + (exchanged,) + way[place + 1:]))
            for one, two, tables in things:
                sums = all(a + b == size for a, b, size in zip(one.sizes, two.sizes, web.sizes))
                told = sums and is_plainly_parted(web, turn, one, two, tables)
                self.assertIs(is_parted(web, turn, (one, two, tables)), told)
                seen[told] += 1
        self.assertGreater(min(seen.values()), 100)

    def test_no_partings(self):
        web = Web(STRAIGHT, 3, (1, 2, 1), [Table(3, 2, 1, [[1], [2]]), Table(3, 1, 2, [[1, 1]])])
        turn = tuple(plain(3, size) for size in web.sizes)
        firm, fading, way = parted(web, turn)
        self.assertTrue(is_parted(web, turn, (firm, fading, way)))
        other = bare(STRAIGHT, 5, (0, 0, 0))
        for thing in (None, 3, "", [], (), (firm, fading), [firm, fading, way], (firm, fading, way, None),
                      (firm, fading, list(way)), (firm, None, way), (None, fading, way), (firm, fading, None),
                      (firm, fading, way[:2]), (firm, other, way), (other, fading, way),
                      (firm, bare(ONE, 3, (0,)), way), (firm, web, way), (way, firm, fading), {}, web,
                      (firm, fading, tuple(plain(5, size) for size in web.sizes)),
                      (bare(STRAIGHT, 5, firm.sizes), fading, way), (firm, bare(STRAIGHT, 5, fading.sizes), way),
                      (bare(RING, 3, firm.sizes), fading, way), (firm, bare(RING, 3, fading.sizes), way)):
            self.assertIs(is_parted(web, turn, thing), False)
        minused = tuple(minus(a, b) for a, b in zip(way, way))
        self.assertIs(is_parted(web, turn, (firm, fading, minused)), False)

    def test_errors_in_their_order(self):
        web = Web(PAIR, 3, (1, 1), [plain(3, 1), empty(3, 1, 1)])
        for turn in (None, 3, [plain(3, 1)] * 2, (plain(3, 1),), (plain(3, 1), empty(3, 1, 1)), (plain(5, 1),) * 2,
                     (plain(3, 2), plain(3, 1)), (1, 1)):
            self.assertFalse(is_map(web, web, turn))
            self.assertRaises(BadMaps, parted, web, turn)
            self.assertRaises(BadMaps, is_parted, web, turn, None)
        for thing in (None, 3, PAIR):
            for work in (lambda: parted(thing, None), lambda: is_parted(thing, None, None)):
                with self.assertRaises(BadWeb) as caught:
                    work()
                self.assertIsNone(caught.exception.part)


if __name__ == "__main__":
    unittest.main()
