"""Points [103] to [106]: ladders, witnesses, factors, the dearest parts, and the example."""

import unittest
from math import gcd

from boughwebs.generals import general_maps
from boughwebs.kinds import general_kind, is_general, kind_row, maps_of_kinds
from boughwebs.ladders import (dear_part, dearest, even_prices, factors, general_steps, is_dearest, is_firm, is_ladder,
                               is_steady, is_witness, ladder, steps_of, witness, worths)
from boughwebs.leasts import least_web
from boughwebs.maps import count_maps, maps
from boughwebs.parts import (all_parts, carried, is_part, is_within, no_part, part_from, part_row, part_web,
                             rest_of_part, whole_part)
from boughwebs.roots import pair_form, roots
from boughwebs.solving import solved
from boughwebs.splits import kind_of, whole_of
from boughwebs.steady import root_prices, slope, steady_roots
from boughwebs.tables import beside, empty, plain, scaled, times
from boughwebs.webs import Web, bare, changed, sum_of
from tests.drawn import (CLASH, GOOD, NETS, ONE, PAIR, RING, STAR, STEP, STRAIGHT, TRIPLE, check_order, drawn,
                         drawn_sizes, drawn_web, drawn_whole, error_of, good_nets, of_other_kinds, with_one_otherwise)
from tests.test_generals import under_plainly
from tests.test_steady import WRONG_PRICES, WRONG_WEIGHTS, drawn_prices, drawn_weights, fraction

EXAMPLE = Web(STEP, 3, (1, 1), [plain(3, 1)])


def drawn_cases(seed, rounds=3):
    """Webs with few parts, with all these, with prices and weights."""
    draw = drawn(seed)
    for net in [ONE, STEP, STRAIGHT, CLASH, STAR] + good_nets(seed + 1, 5):
        for _ in range(rounds):
            prime = draw.choice((2, 3))
            web = drawn_web(draw, net, prime, drawn_sizes(draw, net, 2 if net.places < 4 else 1))
            if error_of(all_parts, web) is None:
                yield web, all_parts(web), drawn_prices(draw, net), drawn_weights(draw, net)


def is_steady_plainly(web, prices, weights):
    if not any(web.sizes):
        return False
    own = fraction(prices, weights, web.sizes)
    return all(fraction(prices, weights, part_row(web, part)) <= own for part in all_parts(web)[1:])


def is_firm_plainly(web, prices, weights):
    if not any(web.sizes):
        return False
    own = fraction(prices, weights, web.sizes)
    return all(fraction(prices, weights, part_row(web, part)) < own for part in all_parts(web)[1:-1])


def step_webs(web, parts):
    """The web of the first part, and what is left of each next one by the one ahead."""
    ahead = None
    for part in parts:
        some, into = part_web(web, part)
        if ahead is None:
            yield some
        else:
            inner = [solved(columns, table) for columns, table in zip(into, ahead)]
            yield rest_of_part(some, part_from(some, inner))[0]
        ahead = part


class LadderTest(unittest.TestCase):

    def test_ladders(self):
        seen = {}
        for web, parts, prices, weights in drawn_cases(961):
            found = ladder(web=web, prices=prices, weights=weights)
            self.assertIs(type(found), list)
            self.assertIs(is_ladder(web=web, prices=prices, weights=weights, thing=found), True)
            self.assertEqual(found == [], not any(web.sizes))
            steps = steps_of(web=web, prices=prices, weights=weights)
            self.assertEqual(len(steps), len(found))
            slopes = []
            for part, step, (row, own) in zip(found, step_webs(web, found), steps):
                self.assertIs(is_part(web, part), True)
                self.assertIs(is_steady_plainly(step, prices, weights), True)
                self.assertEqual(row, step.sizes)
                self.assertEqual(own, slope(web.net, prices, weights, row))
                slopes.append(fraction(prices, weights, row))
            self.assertEqual(slopes, sorted(set(slopes), reverse=True))
            for one, other in zip(found, found[1:]):
                self.assertTrue(is_within(web, one, other) and one != other)
            if found:
                self.assertEqual(found[-1], whole_part(web))
            seen[len(found)] = seen.get(len(found), 0) + 1
        self.assertGreater(len(seen), 3)

    def test_first_part(self):
        for web, parts, prices, weights in drawn_cases(962):
            if not any(web.sizes):
                self.assertIsNone(dear_part(web, prices, weights))
                continue
            told = [(fraction(prices, weights, part_row(web, part)), sum(part_row(web, part)), k)
                    for k, part in enumerate(parts) if k]
            best = max(told)
            self.assertEqual(ladder(web, prices, weights)[0], parts[best[2]])
            self.assertEqual([some[:2] for some in told].count(best[:2]), 1)
            steady = is_steady(web=web, prices=prices, weights=weights)
            self.assertIs(steady, is_steady_plainly(web, prices, weights))
            self.assertIs(is_firm(web=web, prices=prices, weights=weights), is_firm_plainly(web, prices, weights))
            self.assertEqual(dear_part(web=web, prices=prices, weights=weights), None if steady else parts[best[2]])
            # The greatest slope of steady roots with maps into the web, and what these maps span.
            into = [root for root, _ in steady_roots(web.net, prices, weights)
                    if count_maps(least_web(web.net, web.prime, root), web)]
            self.assertEqual(max(fraction(prices, weights, root) for root in into), best[0])
            columns = [empty(web.prime, size, 0) for size in web.sizes]
            for root in into:
                if fraction(prices, weights, root) == best[0]:
                    for mapping in maps(least_web(web.net, web.prime, root), web):
                        columns = [beside([some, table]) for some, table in zip(columns, mapping)]
            self.assertEqual(part_from(web, columns), parts[best[2]])

    def test_is_ladder_of_other_things(self):
        draw = drawn(963)
        for web, parts, prices, weights in drawn_cases(964, 1):
            found = ladder(web, prices, weights)
            for thing in of_other_kinds(found):
                self.assertIs(is_ladder(web, prices, weights, thing), False)
            others = [[whole_part(web)], [], parts, [no_part(web)] + found, found + [whole_part(web)], found[:-1],
                      found[1:], found[::-1], [draw.choice(parts), whole_part(web)]]
            for thing in others:
                self.assertIs(is_ladder(web, prices, weights, thing), thing == found)
            for at, part in enumerate(found):
                for bent in list(with_one_otherwise(part))[:5]:
                    self.assertIs(is_ladder(web, prices, weights, found[:at] + [bent] + found[at + 1:]), False)

    def test_without_rooms(self):
        for net in GOOD:
            nothing = bare(net, 3, (0,) * net.places)
            prices = (1,) * net.places
            self.assertEqual(ladder(nothing, prices, None), [])
            self.assertEqual(steps_of(nothing, prices, None), [])
            self.assertIs(is_ladder(nothing, prices, None, []), True)
            self.assertIs(is_ladder(nothing, prices, None, ()), False)
            self.assertIs(is_ladder(nothing, prices, None, [whole_part(nothing)]), False)
            self.assertIs(is_steady(nothing, prices, None), False)
            self.assertIs(is_firm(nothing, prices, None), False)
            self.assertIsNone(dear_part(nothing, prices, None))
            self.assertIsNone(witness(nothing, prices, None))
            self.assertIs(is_witness(nothing, prices, None, {}), False)
            self.assertEqual(error_of(even_prices, nothing, prices, None), ("NotSo",))
            self.assertEqual(error_of(factors, nothing, prices, None), ("NotSo",))
            self.assertEqual(dearest(nothing, prices), (0, no_part(nothing), no_part(nothing)))
            self.assertEqual(worths(nothing), [0] * len(roots(net)))

    def test_sums_and_coordinates(self):
        draw = drawn(965)
        for net in GOOD + good_nets(966)[5:]:
            prices, weights = drawn_prices(draw, net), drawn_weights(draw, net)
            one, other = [drawn_web(draw, net, 3, drawn_sizes(draw, net, 2)) for _ in range(2)]
            both = sum_of([one, other])
            steps = {}
            for web in (one, other):
                for row, own in steps_of(web, prices, weights):
                    steps[own] = [a + b for a, b in zip(row, steps.get(own, (0,) * net.places))]
            self.assertEqual({own: list(row) for row, own in steps_of(both, prices, weights)}, steps)
            self.assertIs(is_ladder(both, prices, weights, ladder(both, prices, weights)), True)
            coordinates = [drawn_whole(draw, 3, size) for size in one.sizes]
            web = changed(one, coordinates)
            led = [carried(one, web, tuple(coordinates), part) for part in ladder(one, prices, weights)]
            self.assertEqual(ladder(web, prices, weights), led)

    def test_maps_of_steady_webs(self):
        draw = drawn(967)
        for net in (STEP, STRAIGHT, STAR) + tuple(good_nets(968, 6)[-2:]):
            prices, weights = drawn_prices(draw, net), drawn_weights(draw, net)
            found = [root for root, _ in steady_roots(net, prices, weights)]
            for one in found:
                for other in found:
                    if fraction(prices, weights, one) > fraction(prices, weights, other):
                        self.assertEqual(maps_of_kinds(net, {one: 1}, {other: 1}), 0)

    def test_example(self):
        self.assertEqual(steps_of(EXAMPLE, (-1, 1), None), [((0, 1), (1, 1)), ((1, 0), (-1, 1))])
        part = (empty(3, 1, 0), plain(3, 1))
        self.assertEqual(dear_part(EXAMPLE, (-1, 1), None), part)
        self.assertEqual(dearest(EXAMPLE, (-1, 1)), (1, part, part))
        self.assertIs(is_firm(EXAMPLE, (1, -1), None), True)
        self.assertEqual(even_prices(EXAMPLE, (1, -1), None), (1, -1))
        self.assertEqual(witness(EXAMPLE, (1, -1), None), {(1, 0): 1})
        self.assertEqual(worths(EXAMPLE), [1, 0, 1])

    def test_errors_in_their_order(self):
        good = {"web": EXAMPLE, "prices": (1, -1), "weights": (1, 2)}
        for prices in WRONG_PRICES:
            for weights in WRONG_WEIGHTS:
                steps = [("web", None, ("BadWeb", None)), ("web", bare(PAIR, 3, (0, 0)), ("NotGood",)),
                         ("prices", prices, ("BadPrices",)), ("weights", weights, ("BadWeights",))]
                for work in (ladder, steps_of, is_steady, is_firm, dear_part, even_prices, witness):
                    check_order(self, work, good, steps)
                for work in (is_ladder, is_witness):
                    check_order(self, work, {**good, "thing": None}, steps)
                check_order(self, factors, {**good, "prices": (0, 0), "weights": None}, steps)
            check_order(self, dearest, {"web": EXAMPLE, "prices": (1, -1)}, steps[:3])
            check_order(self, is_dearest, {"web": EXAMPLE, "prices": (1, -1), "number": None, "thing": 3}, steps[:3])
        self.assertEqual(error_of(worths, STEP), ("BadWeb", None))
        self.assertEqual(error_of(worths, bare(RING, 3, (1, 1, 1))), ("NotGood",))


class GeneralStepsTest(unittest.TestCase):

    def test_on_any_net(self):
        draw = drawn(971)
        for net, most in ((ONE, 4), (PAIR, 3), (TRIPLE, 2), (RING, 2), (STAR, 1), (STEP, 3)):
            known = {}
            rows = [tuple(draw.randrange(most + 1) for _ in range(net.places)) for _ in range(6)]
            for row in rows:
                prices, weights = drawn_prices(draw, net), drawn_weights(draw, net)
                found = general_steps(net=net, prices=prices, weights=weights, row=row)
                self.assertIs(type(found), list)
                left = row
                for step, own in found:
                    under = [one for one in self.box(left) if any(one) and under_plainly(net, one, left, known)]
                    best = max((fraction(prices, weights, one), sum(one)) for one in under)
                    told = [one for one in under if (fraction(prices, weights, one), sum(one)) == best]
                    self.assertEqual(told, [step])
                    self.assertEqual(own, (best[0].numerator, best[0].denominator))
                    left = tuple(a - b for a, b in zip(left, step))
                self.assertFalse(any(left))

    def box(self, row):
        found = [()]
        for number in row:
            found = [one + (k,) for one in found for k in range(number + 1)]
        return found

    def test_general_webs(self):
        draw = drawn(972)
        for net in GOOD:
            row = drawn_sizes(draw, net, 2)
            prices, weights = drawn_prices(draw, net), drawn_weights(draw, net)
            if error_of(general_steps, net, prices, weights, row) is None:
                web = whole_of(net, 3, general_kind(net, row))
                self.assertEqual(general_steps(net, prices, weights, row), steps_of(web, prices, weights))
        self.assertEqual(general_maps(STEP, (1, 1), (1, 1)), 1)

    def test_errors_in_their_order(self):
        for net in NETS:
            good = {"net": net, "prices": (1,) * net.places, "weights": None, "row": (1,) * net.places}
            check_order(self, general_steps, good, [
                ("net", None, ("BadNet", None)), ("prices", (100,) * net.places, ("BadPrices",)),
                ("weights", (0,) * net.places, ("BadWeights",)), ("row", (13,) * net.places, ("BadRow",))])
        self.assertEqual(general_steps(STEP, (1, 1), None, (0, 0)), [])
        self.assertEqual(error_of(general_steps, RING, (0, 0, 0), None, (12, 12, 1)), ("TooMany", 250))
        self.assertIsNone(error_of(general_steps, RING, (0, 0, 0), None, (4, 4, 9)))
        for row in ((1, 1), (0, -1, 0), [1, 1, 1], (True, 1, 1)):
            self.assertEqual(error_of(general_steps, RING, (0, 0, 0), None, row), ("BadRow",))


class WitnessTest(unittest.TestCase):

    def test_even_prices(self):
        for web, parts, prices, weights in drawn_cases(973):
            if not any(web.sizes):
                continue
            found = even_prices(web=web, prices=prices, weights=weights)
            told = weights or (1,) * web.net.places
            below = sum(a * b for a, b in zip(told, web.sizes))
            above = sum(a * b for a, b in zip(prices, web.sizes))
            many = [price * below - weight * above for price, weight in zip(prices, told)]
            common = gcd(*many)
            self.assertEqual(found, tuple(number // common if common else 0 for number in many))
            own = fraction(prices, weights, web.sizes)
            for part in parts[1:]:
                row = part_row(web, part)
                self.assertIs(sum(a * b for a, b in zip(found, row)) > 0, fraction(prices, weights, row) > own)

    def test_witnesses(self):
        seen = {True: 0, False: 0}
        for web, parts, prices, weights in drawn_cases(974, 6):
            found = witness(web=web, prices=prices, weights=weights)
            steady = is_steady_plainly(web, prices, weights)
            self.assertIs(found is not None, steady)
            seen[steady] += 1
            if not steady:
                for root in roots(web.net):
                    self.assertIs(is_witness(web, prices, weights, {root: 1}), False)
                continue
            self.assertIs(is_witness(web=web, prices=prices, weights=weights, thing=found), True)
            self.assertIs(is_general(web.net, found), True)
            self.assertEqual(list(found), sorted(found))
            self.assertTrue(all(not number or size for root in found for number, size in zip(root, web.sizes)))
            even = even_prices(web, prices, weights)
            for place, size in enumerate(web.sizes):
                unit = tuple(int(k == place) for k in range(web.net.places))
                if size:
                    told = sum(many * pair_form(web.net, root, unit) for root, many in found.items())
                    self.assertEqual(told, even[place])
            self.assertEqual(maps_of_kinds(web.net, found, kind_of(web)), 0)
            self.judged(web, prices, weights, found)
        self.assertGreater(min(seen.values()), 15)

    def judged(self, web, prices, weights, found):
        even = even_prices(web, prices, weights)
        for thing in (None, list(found), list(found.items()), {**found, roots(web.net)[0]: 0}, ((1,), 1), 3,
                      {root: float(many) for root, many in found.items()} or None):
            self.assertIs(is_witness(web, prices, weights, thing), False)
        for root in roots(web.net):
            thing = dict(found)
            thing[root] = thing.get(root, 0) + 1
            told = all(not size or sum(many * pair_form(web.net, some, tuple(int(k == place) for k in
                                                                           range(web.net.places)))
                                       for some, many in thing.items()) == even[place]
                       for place, size in enumerate(web.sizes))
            told = told and maps_of_kinds(web.net, thing, kind_of(web)) == 0
            self.assertIs(is_witness(web, prices, weights, thing), told)

    def test_places_without_rooms(self):
        # The middle of three places has no room: the ends are steady together if their slopes are one.
        web = bare(STRAIGHT, 3, (1, 0, 1))
        self.assertEqual(even_prices(web, (1, 5, 1), None), (0, 1, 0))
        self.assertEqual(witness(web, (1, 5, 1), None), {})
        self.assertIs(is_witness(web, (1, 5, 1), None, {}), True)
        self.assertIsNone(witness(web, (1, 0, 2), None))
        # Other witnesses may have roots at places without a room.
        last = bare(STEP, 3, (0, 1))
        self.assertEqual(witness(last, (3, 1), None), {})
        self.assertIs(is_witness(last, (3, 1), None, {(1, 1): 1, (1, 0): 1}), False)
        first = bare(STEP, 3, (1, 0))
        self.assertIs(is_witness(first, (3, 1), None, {(0, 1): 4}), True)

    def test_great_prices(self):
        draw = drawn(975)
        for net in good_nets(976)[7:]:
            prices = drawn_prices(draw, net, 99)
            weights = tuple(draw.randrange(1, 10) for _ in range(net.places))
            for root, _ in steady_roots(net, prices, weights)[-2:]:
                web = sum_of([least_web(net, 2, root)] * 5)
                found = witness(web, prices, weights)
                self.assertIs(is_witness(web, prices, weights, found), True)

    def test_factors(self):
        seen = 0
        for web, parts, prices, weights in drawn_cases(977, 12):
            if not is_steady_plainly(web, prices, weights):
                self.assertEqual(error_of(factors, web, prices, weights), ("NotSo",))
                continue
            found = factors(web=web, prices=prices, weights=weights)
            own = fraction(prices, weights, web.sizes)
            self.assertEqual(kind_row(web.net, found), web.sizes)
            self.assertEqual(list(found), sorted(found))
            # A chain that cannot be made finer, among all parts of this slope.
            chain = [part for part in parts[1:] if fraction(prices, weights, part_row(web, part)) == own]
            rows, last = {}, no_part(web)
            while last != whole_part(web):
                above = [part for part in chain if part != last and is_within(web, last, part)]
                step = min(above, key=lambda part: sum(part_row(web, part)))
                row = tuple(a - b for a, b in zip(part_row(web, step), part_row(web, last)))
                rows[row] = rows.get(row, 0) + 1
                last = step
            self.assertEqual(found, rows)
            for root in found:
                self.assertIn((root, True), steady_roots(web.net, prices, weights))
            seen += len(found) > 1
        self.assertGreater(seen, 4)
        self.assertEqual(factors(EXAMPLE, (0, 0), None), {(0, 1): 1, (1, 0): 1})
        self.assertEqual(factors(bare(ONE, 2, (60,)), (-3,), (9,)), {(1,): 60})


class DearestTest(unittest.TestCase):

    def test_dearest(self):
        for web, parts, prices, _ in drawn_cases(978):
            number, least, greatest = dearest(web=web, prices=prices)
            told = [sum(a * b for a, b in zip(prices, part_row(web, part))) for part in parts]
            self.assertEqual(number, max(told))
            best = [part for part, some in zip(parts, told) if some == number]
            self.assertTrue(least in best and greatest in best)
            for part in best:
                self.assertTrue(is_within(web, least, part) and is_within(web, part, greatest))
            for part, some in zip(parts, told):
                self.assertIs(is_dearest(web=web, prices=prices, number=some, thing=part), some == number)
                self.assertIs(is_dearest(web, prices, number, part), some == number)
                self.assertIs(is_dearest(web, prices, number + 1, part), False)
            for thing in of_other_kinds(least):
                self.assertIs(is_dearest(web, prices, number, thing), False)
            for wrong in (None, float(number), str(number), (number,)) + ((bool(number),) if number in (0, 1) else ()):
                self.assertIs(is_dearest(web, prices, wrong, least), False)
            # The last parts of the ladder up to which slopes are above 0, and not below 0.
            steps = list(zip(steps_of(web, prices, None), ladder(web, prices, None)))
            above = [part for (_, own), part in steps if own[0] > 0]
            even = [part for (_, own), part in steps if own[0] >= 0]
            self.assertEqual(least, above[-1] if above else no_part(web))
            self.assertEqual(greatest, even[-1] if even else no_part(web))

    def test_worths(self):
        for web, parts, _, _ in drawn_cases(979):
            found = worths(web=web)
            self.assertIs(type(found), list)
            told = []
            for root in roots(web.net):
                prices = root_prices(web.net, root)
                told.append(max(sum(a * b for a, b in zip(prices, part_row(web, part))) for part in parts))
                self.assertEqual(told[-1], count_maps(least_web(web.net, web.prime, root), web))
                self.assertEqual(told[-1], dearest(web, prices)[0])
            self.assertEqual(found, told)

    def test_worths_tell_webs_apart(self):
        draw = drawn(980)
        for net in (STEP, STRAIGHT, CLASH, STAR):
            for _ in range(15):
                row = drawn_sizes(draw, net, 2)
                one, other = [drawn_web(draw, net, 2, row, draw.choice((0.3, 0.9))) for _ in range(2)]
                self.assertIs(worths(one) == worths(other), kind_of(one) == kind_of(other))

    def test_multiples_of_columns(self):
        web = bare(ONE, 5, (2,))
        number, least, greatest = dearest(web, (1,))
        self.assertEqual((number, least, greatest), (2, whole_part(web), whole_part(web)))
        self.assertEqual(dearest(web, (0,)), (0, no_part(web), whole_part(web)))
        self.assertIs(is_dearest(web, (1,), 2, tuple(scaled(table, 2) for table in least)), False)
        self.assertEqual(times(plain(5, 2), least[0]), least[0])


if __name__ == "__main__":
    unittest.main()
