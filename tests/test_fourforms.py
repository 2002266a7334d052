"""Points [132], [133]: fours split into least ones, cross numbers, and maps between them told by names."""

import unittest
from itertools import product

from boughwebs.fourforms import (cross_number, four_maps, fours_joinings, fours_maps, is_split_four, kind_of_four,
                                 split_four)
from boughwebs.fourlines import are_fours, four_sizes, least_four, step_back, step_on, sum_of_fours
from boughwebs.joinings import count_joinings
from boughwebs.maps import count_maps, is_alike
from boughwebs.roots import pair_form
from boughwebs.tables import Table, empty, scaled
from boughwebs.webs import Web, bare, changed
from tests.drawn import (all_tables, check_order, drawn, drawn_web, error_of, of_other_kinds, turned_about,
                         with_one_otherwise)
from tests.test_fourlines import BARE, FOURS, NO_FOURS, all_names, drawn_names, turn_names
from tests.test_polys import WRONG_PRIMES


def stepped_on(kind):
    """The names that step_on makes of those of a kind."""
    found = []
    for name in kind:
        if name[0] == "early" and name[1]:
            found.append(("early", name[1] - 1, name[2]))
        elif name[0] == "late":
            found.append(("late", name[1] + 1, name[2]))
        elif name[0] == "knot":
            found.append(("knot", name[1], 1 - name[2], name[3]))
        elif name[0] == "turn":
            found.append(name)
    return tuple(sorted(found))


def stepped_back(kind):
    found = []
    for name in kind:
        if name[0] == "late" and name[1]:
            found.append(("late", name[1] - 1, name[2]))
        elif name[0] == "early":
            found.append(("early", name[1] + 1, name[2]))
        elif name[0] == "knot":
            found.append(("knot", name[1], 1 - name[2], name[3]))
        elif name[0] == "turn":
            found.append(name)
    return tuple(sorted(found))


class SplitFourTest(unittest.TestCase):

    def judged(self, web):
        """The split is judged; its kind is told."""
        found = split_four(web=web)
        self.assertIs(type(found), tuple)
        kind, coordinates = found
        self.assertIs(type(coordinates), list)
        self.assertIs(are_fours(web.prime, kind), True)
        self.assertEqual(changed(web, coordinates), sum_of_fours(web.prime, kind))
        self.assertEqual(kind_of_four(web=web), kind)
        self.assertIs(is_split_four(web=web, thing=found), True)
        self.assertEqual(split_four(web), found)
        return found

    def test_drawn_sums_in_drawn_coordinates(self):
        draw = drawn(1321)
        for prime in BARE:
            for _ in range(60):
                kind = drawn_names(draw, prime, 24)
                web = turned_about(draw, sum_of_fours(prime, kind))
                self.assertEqual(self.judged(web)[0], kind)

    def test_drawn_tables(self):
        draw = drawn(1322)
        for prime in BARE:
            for _ in range(60):
                sizes = tuple(draw.randrange(5) for _ in range(4)) + (draw.randrange(8),)
                self.judged(drawn_web(draw, FOURS, prime, sizes, draw.choice((0.2, 0.5, 0.9))))

    def test_each_least_four(self):
        draw = drawn(1323)
        for prime in (2, 3):
            for name in all_names(prime):
                many = sum(four_sizes(prime, name))
                if many <= 24:
                    self.assertEqual(self.judged(least_four(prime, name))[0], (name,))
                if many <= 12:
                    twice = turned_about(draw, sum_of_fours(prime, (name, name)))
                    self.assertEqual(self.judged(twice)[0], (name, name))

    def test_all_small_fours(self):
        for sizes in ((1, 1, 1, 1, 1), (1, 1, 1, 0, 2), (2, 1, 0, 0, 2), (1, 1, 1, 1, 2)):
            spaces = [list(all_tables(2, sizes[4], size)) for size in sizes[:4]]
            seen = set()
            for tables in product(*spaces):
                web = Web(FOURS, 2, sizes, tables)
                kind, coordinates = split_four(web)
                self.assertEqual(changed(web, coordinates), sum_of_fours(2, kind))
                seen.add(kind)
            self.assertTrue(all(tuple(map(sum, zip(*[four_sizes(2, name) for name in kind]))) == sizes
                                for kind in seen))

    def test_steps_lead_kinds(self):
        draw = drawn(1324)
        for prime in BARE:
            for _ in range(25):
                kind = drawn_names(draw, prime, 10)
                web = turned_about(draw, sum_of_fours(prime, kind))
                for work, told in ((step_on, stepped_on(kind)), (step_back, stepped_back(kind))):
                    led = work(web)
                    if sum(led.sizes) <= 24:
                        self.assertEqual(kind_of_four(led), told)

    def test_sums_of_sizes(self):
        for sizes in ((24, 0, 0, 0, 0), (0, 0, 0, 0, 24), (6, 6, 4, 4, 4), (4, 4, 4, 4, 8), (0, 0, 0, 0, 0)):
            self.judged(bare(FOURS, 97, sizes))
        for sizes in ((25, 0, 0, 0, 0), (0, 0, 0, 0, 25), (7, 6, 4, 4, 4), (60,) * 5):
            web = bare(FOURS, 2, sizes)
            for work in (split_four, kind_of_four):
                self.assertEqual(error_of(work, web), ("TooMany", 24))
        # Judged is a web of any sizes.
        kind = (("early", 0, 4),) * 25
        web = sum_of_fours(2, kind)
        unit = [empty(2, 0, 0)] * 4 + [Table(2, 25, 25, [[int(i == j) for j in range(25)] for i in range(25)])]
        self.assertIs(is_split_four(web, (kind, unit)), True)
        self.assertIs(is_split_four(web, (kind[1:], unit)), False)

    def test_other_values(self):
        draw = drawn(1325)
        for prime in (2, 5):
            for _ in range(12):
                kind = drawn_names(draw, prime, 10)
                web = turned_about(draw, sum_of_fours(prime, kind))
                found = split_four(web)
                coordinates = found[1]
                goal = sum_of_fours(prime, kind)
                for thing in of_other_kinds(found):
                    self.assertIs(is_split_four(web, thing), False)
                for bent in with_one_otherwise(tuple(coordinates)):
                    self.assertIs(is_split_four(web, (kind, list(bent))), is_alike(web, goal, bent))
                if any(web.sizes):
                    self.assertIs(is_split_four(web, (kind, [scaled(table, 0) for table in coordinates])), False)
                    self.assertIs(is_split_four(web, (kind[1:], coordinates)), False)
                    self.assertIs(is_split_four(web, (kind + kind, coordinates)), False)
                if prime == 5:
                    self.assertIs(is_split_four(web, (kind, [scaled(table, 3) for table in coordinates])), True)
        web = sum_of_fours(3, (("early", 0, 0), ("late", 0, 1)))
        unit = [Table(3, size, size, [[1] * size] * size) for size in web.sizes]
        self.assertIs(is_split_four(web, ((("early", 0, 0), ("late", 0, 1)), unit)), True)
        self.assertIs(is_split_four(web, ((("late", 0, 1), ("early", 0, 0)), unit)), False)
        self.assertIs(is_split_four(web, ((("early", 0, 4), ("late", 0, 0), ("late", 0, 1)), unit)), False)

    def test_no_fours(self):
        for wrong in NO_FOURS:
            for work in (split_four, kind_of_four, cross_number, lambda web: is_split_four(web, None)):
                self.assertEqual(error_of(work, wrong), ("NotFour",))


def four_columns(prime, columns):
    return Web(FOURS, prime, (1, 1, 1, 1, 2), [Table(prime, 2, 1, [[a], [b]]) for a, b in columns])


class CrossNumberTest(unittest.TestCase):

    def test_by_the_formula(self):
        draw = drawn(1326)
        seen = 0
        for prime in (2, 3, 5, 7, 97):
            for _ in range(150):
                columns = [(draw.randrange(prime), draw.randrange(prime)) for _ in range(4)]
                web = four_columns(prime, columns)
                a, b, c, d = columns

                def cross(x, y):
                    return (x[0] * y[1] - x[1] * y[0]) % prime
                if not all(cross(x, y) for at, x in enumerate(columns) for y in columns[:at]):
                    self.assertEqual(error_of(cross_number, web), ("NotSo",))
                    continue
                seen += 1
                number = cross_number(web=web)
                self.assertEqual(number * cross(a, c) * cross(d, b) % prime, cross(c, b) * cross(a, d) % prime)
                self.assertTrue(2 <= number < prime)
                self.assertEqual(kind_of_four(web), (("turn", (prime - number, 1), 1),))
                self.assertEqual(cross_number(four_columns(prime, (b, a, c, d))) * number % prime, 1)
                self.assertEqual(cross_number(four_columns(prime, (c, b, a, d))), (1 - number) % prime)
        self.assertGreater(seen, 150)

    def test_not_so(self):
        for columns in (((1, 0), (0, 1), (1, 1), (1, 0)), ((1, 0), (0, 1), (0, 0), (1, 2)), ((1, 2), (2, 4), (1, 1), (1, 3)),
                        ((1, 0), (0, 1), (1, 2), (3, 6)), ((0, 0), (0, 1), (1, 2), (1, 1))):
            self.assertEqual(error_of(cross_number, four_columns(7, columns)), ("NotSo",))
        for sizes in ((1, 1, 1, 1, 1), (1, 1, 1, 1, 3), (2, 1, 1, 1, 2), (0, 1, 1, 1, 2), (0,) * 5):
            self.assertEqual(error_of(cross_number, bare(FOURS, 7, sizes)), ("NotSo",))


class MapsTest(unittest.TestCase):

    def test_all_small_names(self):
        for prime in (2, 3):
            names = all_names(prime, 3, 5, 2)
            for one in names:
                for other in names:
                    webs = least_four(prime, one), least_four(prime, other)
                    if sum(a * b for a, b in zip(webs[0].sizes, webs[1].sizes)) <= 90:
                        found = four_maps(prime=prime, one=one, other=other)
                        self.assertEqual(found, count_maps(*webs), (one, other))

    def test_greater_names(self):
        draw = drawn(1331)
        for prime in BARE:
            names = all_names(prime)
            turns = turn_names(prime)
            for _ in range(40):
                for one, other in ((draw.choice(names), draw.choice(names)), (draw.choice(turns), draw.choice(turns))):
                    webs = least_four(prime, one), least_four(prime, other)
                    if sum(a * b for a, b in zip(webs[0].sizes, webs[1].sizes)) <= 300:
                        self.assertEqual(four_maps(prime, one, other), count_maps(*webs), (one, other))
        self.assertEqual(four_maps(2, ("turn", (1, 1, 1), 3), ("turn", (1, 1, 1), 2)), 4)
        self.assertEqual(four_maps(2, ("knot", 1, 0, 12), ("knot", 1, 1, 9)), 5)
        self.assertEqual(four_maps(2, ("knot", 1, 0, 12), ("knot", 1, 0, 9)), 4)
        self.assertEqual(four_maps(2, ("knot", 1, 0, 12), ("knot", 2, 0, 12)), 0)

    def test_kinds(self):
        draw = drawn(1332)
        for prime in BARE:
            for _ in range(30):
                one, other = drawn_names(draw, prime, 14), drawn_names(draw, prime, 14)
                webs = [turned_about(draw, sum_of_fours(prime, kind)) for kind in (one, other)]
                if sum(a * b for a, b in zip(webs[0].sizes, webs[1].sizes)) <= 300:
                    self.assertEqual(fours_maps(prime=prime, one=one, other=other), count_maps(*webs))
                    found = fours_joinings(prime=prime, one=one, other=other)
                    self.assertEqual(found, count_joinings(*webs))
                    form = pair_form(FOURS, webs[0].sizes, webs[1].sizes)
                    self.assertEqual(found, fours_maps(prime, one, other) - form)
        self.assertEqual((fours_maps(2, (), ()), fours_joinings(2, (), ())), (0, 0))
        # Kinds may be greater than any web.
        many = (("early", 0, 4),) * 100
        self.assertEqual(fours_maps(2, many, many), 10000)

    def test_errors_in_their_order(self):
        for prime in WRONG_PRIMES:
            for wrong in (None, ("early", 12, 0), ["late", 1, 1], ("turn", (1, 1), 1)):
                check_order(self, four_maps, {"prime": 2, "one": ("early", 1, 0), "other": ("late", 0, 0)}, [
                    ("prime", prime, ("BadPrime",)), ("one", wrong, ("BadLeast",)), ("other", wrong, ("BadLeast",))])
            for wrong in (None, [], ("early", 1, 0), (("late", 0, 0), ("early", 0, 0)), (("early", 12, 0),)):
                for work in (fours_maps, fours_joinings):
                    check_order(self, work, {"prime": 2, "one": (("early", 1, 0),), "other": ()}, [
                        ("prime", prime, ("BadPrime",)), ("one", wrong, ("BadKind",)), ("other", wrong, ("BadKind",))])


if __name__ == "__main__":
    unittest.main()
