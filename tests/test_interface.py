"""The interface and point [3]: names, files, parameters; what is handed in stays as it is."""

import ast
import contextlib
import copy
import importlib
import inspect
import io
import os
import unittest

from boughwebs import errors
from boughwebs.desk import Desk
from boughwebs.fivelines import five_of, hidden_map
from boughwebs.fourlines import least_four
from boughwebs.kinds import general_kind, kinds_of, sum_kind
from boughwebs.loft import Loft
from boughwebs.mirrors import point_web
from boughwebs.partcounts import part_tallies
from boughwebs.tables import empty, plain
from boughwebs.texts import net_text, table_text, web_text
from boughwebs.webs import Web, bare
from boughwebs.wholes import Whole
from tests.drawn import ONE, PAIR, STEP

PACKAGE = os.path.join(os.path.dirname(os.path.dirname(os.path.abspath(__file__))), "boughwebs")

INTERFACE = {
    "tables": "Table(prime, tall, wide, lines); times(one, two); plus(one, two); minus(one, two); "
              "scaled(one, number); plain(prime, size); empty(prime, tall, wide); across(one); beside(tables); "
              "over(tables); corner(tables)",
    "solving": "tidy(one); rank(one); kernel(one); left_over(one); solved(one, goal); inverse(one); is_whole(one); "
               "count_whole(prime, size)",
    "nets": "Net(places, arrows); sinks(net); sources(net); is_tree(net); turned_net(net)",
    "roots": "pair_form(net, one, other); form(net, row); shape(net); is_shape(net, thing); roots(net); "
             "mirrored_row(net, place, row); highest(net)",
    "webs": "Web(net, prime, sizes, tables); bare(net, prime, sizes); sum_of(webs); changed(web, coordinates); "
            "turned_web(web)",
    "maps": "maps(one, other); count_maps(one, other); is_map(one, other, thing); behind(one, other); "
            "is_alike(one, other, thing); kernel_web(one, other, mapping); image_web(one, other, mapping); "
            "rest_web(one, other, mapping)",
    "kinds": "is_kind(net, thing); kind_row(net, kind); sum_kind(net, kinds); kinds_of(net, row); "
             "maps_of_kinds(net, one, other); joinings_of_kinds(net, one, other); general_kind(net, row); "
             "is_general(net, kind)",
    "mirrors": "mirrored_net(net, place); point_web(net, prime, place); inflow(web, place); outflow(web, place); "
               "mirrored(web, place); lost_points(web, place); mirrored_map(one, other, mapping, place); "
               "mirrored_again(web, place); split_off(web, place)",
    "words": "is_word(net, thing); net_after(net, word); row_after(net, word, row); web_after(web, word); "
             "row_before(net, word, row); web_before(net, word, web); word_with(net, counts); word_to(net, other); "
             "sink_word(net); shifted_web(web); unshifted_web(web); shifted_row(net, row); unshifted_row(net, row)",
    "leasts": "all_ways(net, one, other); first_web(net, prime, place); last_web(net, prime, place); "
              "map_from(web, place, column); root_word(net, root); least_web(net, prime, root); shown_least(web)",
    "loom": "loom(net); loom_order(net); spot_of(net, root); turn_counts(net); partners(net); round_number(net); "
            "next_root(net, root); last_root(net, root); successors(net, root); predecessors(net, root); "
            "maps_ahead(net, root); stands_before(net, one, other); is_order(net, thing); order_of_word(net, word); "
            "word_of_order(net, order)",
    "meshes": "middle_of_mesh(net, prime, root); mesh_of(net, prime, root); is_mesh(net, prime, root, thing); "
              "through_or_back(net, prime, root, web, mapping); counts_of_kind(net, kind); "
              "kind_of_counts(net, counts)",
    "partings": "parted(web, turn); is_parted(web, turn, thing)",
    "splits": "whole_of(net, prime, kind); is_least(web); kind_of(web); split_web(web); is_split(web, thing); "
              "summands(web); is_summands(web, thing)",
    "ranks": "pairing_table(web, root); counts_of(web); peeled(web); count_turns(web); count_fading(web)",
    "likeness": "alike(one, other); is_alike_told(one, other, thing); summand(one, other); "
                "is_summand_told(one, other, thing); shared_kind(one, other)",
    "exchanges": "exchange(web, one, other, at); exchanges(web, one, other); is_exchanges(web, one, other, thing); "
                 "matched(web, one, other); is_matched(web, one, other, thing)",
    "joinings": "is_joining(one, other, thing); no_joining(one, other); plus_joining(one, other, first, second); "
                "scaled_joining(one, other, joining, number); twist(one, other, slack); "
                "tidy_joining(one, other, joining); joinings(one, other); count_joinings(one, other)",
    "probes": "probes(one, other); is_probe(one, other, thing); probe_value(one, other, probe, joining); "
              "compared(one, other, first, second); is_compared(one, other, first, second, thing)",
    "middles": "middle_web(one, other, joining); middle_maps(one, other, joining); "
               "joining_of(one, other, web, into, onto); is_joining_of(one, other, web, into, onto, thing); "
               "pulled(one, other, joining, web, mapping); pushed(one, other, joining, web, mapping); "
               "lifted(one, other, joining, web, mapping); spread(one, other, joining, web, mapping); "
               "is_lifted(one, other, joining, web, mapping, thing); "
               "is_spread(one, other, joining, web, mapping, thing); count_lost(one, other, joining, web); "
               "middle_kinds(one, other)",
    "blocks": "is_block(net, thing); blocks_between(net, outer, inner); block_joining(outer, inner, kind)",
    "bends": "bends(net, one, other); barred_by(net, one, other); chain_kinds(net, other, chain); "
             "is_bend_chain(net, one, other, thing); bend_chain(net, one, other); bending_steps(net, row); "
             "is_bending(one, other, thing); shown_bending(one, other); is_shown_bending(one, other, thing)",
    "parts": "is_part(web, thing); part_row(web, part); no_part(web); whole_part(web); part_web(web, part); "
             "rest_of_part(web, part); part_from(web, columns); part_sum(web, one, other); "
             "common_part(web, one, other); is_within(web, one, other); carried(one, other, mapping, part); "
             "fetched(one, other, mapping, part); all_parts(web)",
    "generals": "is_under(net, one, other); under_rows(net, row); general_joinings(net, one, other); "
                "general_maps(net, one, other)",
    "steady": "worth(net, prices, row); slope(net, prices, weights, row); steady_roots(net, prices, weights); "
              "root_prices(net, root)",
    "ladders": "ladder(web, prices, weights); is_ladder(web, prices, weights, thing); steps_of(web, prices, weights); "
               "is_steady(web, prices, weights); is_firm(web, prices, weights); dear_part(web, prices, weights); "
               "general_steps(net, prices, weights, row); even_prices(web, prices, weights); "
               "witness(web, prices, weights); is_witness(web, prices, weights, thing); "
               "factors(web, prices, weights); dearest(web, prices); is_dearest(web, prices, number, thing); "
               "worths(web)",
    "bars": "line_order(net); is_bar(net, thing); is_bars(net, thing); bar_web(net, prime, bar); "
            "web_of_bars(net, prime, bars); split_line(web); bars_of(web); is_split_line(web, thing); "
            "long_rank(web, start, stop); threads(web, start, stop)",
    "ends": "bar_maps(net, one, other); bar_joinings(net, one, other); kind_of_bars(net, bars); "
            "bars_of_kind(net, kind); window(web, start, stop); mirrored_bars(net, place, bars)",
    "nearness": "straight_net(places); pairing(one, other, step); is_pairing(one, other, step, thing); "
                "barrier(one, other, step); is_barrier(one, other, step, thing); distance(one, other); "
                "bars_between(one, other, part)",
    "shuttles": "shifted(web, step); onward(web, step); shifted_map(one, other, mapping, step); "
                "is_shuttle(one, other, step, thing); shuttle(one, other, step); nearness(one, other); "
                "led_pairs(one, other, step, there); rank_rows(web)",
    "polys": "is_poly(prime, thing); poly_product(prime, one, other); poly_divided(prime, one, other); "
             "poly_common(prime, one, other); poly_power(prime, one, many); poly_parts(prime, one); "
             "is_bare(prime, thing); bare_polys(prime, degree); companion(prime, one)",
    "pairs": "pair_net(); is_least_name(prime, thing); least_sizes(prime, name); least_pair(prime, name); "
             "is_pair_kind(prime, thing); sum_of_kind(prime, kind)",
    "pairforms": "split_pair(web); kind_of_pair(web); is_split_pair(web, thing); chain_count(web, many)",
    "pairmaps": "least_maps(prime, one, other); kind_maps(prime, one, other); kind_joinings(prime, one, other); "
                "parted_by(one, other); alike_by(one, other); mixed(web, four); mixed_kind(prime, kind, four); "
                "turned_kind(prime, kind)",
    "paircounts": "self_maps(prime, kind); many_of_kind(prime, kind); kinds_of_sizes(prime, sizes); "
                  "common_kind(prime, sizes)",
    "fourlines": "four_net(); step_on(web); step_back(web); is_four_name(prime, thing); four_sizes(prime, name); "
                 "least_four(prime, name); are_fours(prime, thing); sum_of_fours(prime, kind)",
    "fourforms": "split_four(web); kind_of_four(web); is_split_four(web, thing); cross_number(web); "
                 "four_maps(prime, one, other); fours_maps(prime, one, other); fours_joinings(prime, one, other)",
    "rounds": "family_place(net); rest_net(net); defect(net, row); points(prime); family_web(net, prime, point); "
              "family_point(web); unlike_webs(net, prime, row)",
    "fivelines": "is_double_map(one, other, thing); five_net(); five_of(double); double_of(web); hidden(web); "
                 "hidden_map(one, other, mapping); shown_map(one, other, thing)",
    "loft": "Loft(web); own(loft); owns(loft); told_kind(loft); loosening(loft); is_loosening(loft, thing)",
    "journals": "view(loft); journal_of(loft); first_wrong(web, thing); replayed(web, journal)",
    "texts": "net_text(net); read_net(text); table_text(table); read_table(text); web_text(web); read_web(text); "
             "kind_text(net, kind); read_kind(net, text)",
    "tallies": "is_tally(thing); tally_at(tally, number); tally_sum(tallies); tally_product(tallies); "
               "tally_less(one, other); tally_through(one, other); whole_tally(size); choices_tally(size, part)",
    "countings": "web_tally(net, row); turns_tally(net, kind); kind_tally(net, kind)",
    "classes": "thin_tally(net, row); class_tally(net, row)",
    "partcounts": "part_tallies(net, kind)",
    "steadycounts": "steady_tally(net, prices, weights, row); ladder_tally(net, prices, weights, rows)",
    "wholetables": "determinant(lines)",
    "wholes": "Whole(net, sizes, tables); modulo(whole, prime); sum_of_wholes(wholes); "
              "changed_whole(whole, coordinates)",
    "evenwholes": "least_whole(net, root); even_whole(net, kind)",
    "wholekinds": "kind_at(whole, prime); hurdle(whole, root); bad_number(whole); kind_of_whole(whole); "
                  "bad_primes(whole)",
    "wholesplits": "whole_split(whole, prime); is_whole_split(whole, thing)",
}
METHODS = {
    ("loft", "Loft"): "add(other); turn(coordinates); put(at, table); fade(at); loosen(part); keep(part); lose(part); "
                      "mirror(place); settle(); undo(); attempt(work); log(); copy()",
    ("desk", "Desk"): "say(line)",
}

NOUGHT = (plain(3, 1), plain(3, 1))
WHOLE = Web(STEP, 3, (1, 1), [plain(3, 1)])
JOINING = (plain(3, 1),)
BOTH_PLAIN = Web(PAIR, 3, (1, 1), [plain(3, 1), plain(3, 1)])
FOUR = least_four(3, ("turn", (1, 1), 1))
DOUBLE = (plain(3, 1), plain(3, 1))
SIX = Whole(STEP, (1, 1), [[[6]]])
FADED = Loft(WHOLE)
FADED.fade(0)

ARGUMENTS = {
    "prime": 3, "tall": 1, "wide": 1, "lines": [[1]], "size": 1, "number": 2, "places": 2, "arrows": [(0, 1)],
    "row": (1, 1), "thing": None, "sizes": (1, 1), "tables": [plain(3, 1)], "webs": [WHOLE, WHOLE], "place": 0,
    "coordinates": list(NOUGHT), "mapping": NOUGHT, "kind": {(1, 1): 1}, "kinds": [{(1, 1): 1}, {}], "net": STEP,
    "web": WHOLE, "goal": plain(3, 1), "two": plain(3, 1), "word": [1, 0], "column": plain(3, 1), "root": (1, 1),
    "order": [(0, 1), (1, 1), (1, 0)], "turn": NOUGHT, "at": 0, "counts": (1, 1), "joining": JOINING, "first": JOINING,
    "second": JOINING, "slack": NOUGHT, "probe": (empty(3, 1, 1),), "outer": (1, 0), "inner": (0, 1),
    "chain": [((1, 0), (0, 1), {(1, 1): 1})], "part": NOUGHT, "columns": list(NOUGHT), "prices": (1, -1),
    "weights": (1, 2), "bar": (0, 1), "bars": ((0, 1), (1, 1)), "start": 0, "stop": 1, "step": 1, "many": 2,
    "degree": 2, "name": ("up", 1), "four": (1, 2, 0, 1), "there": NOUGHT, "point": (1, 2), "double": DOUBLE,
    "loft": FADED, "journal": [(("fade", 0), (((0, 1),), (1, 1), (0,)))], "tally": (1, 0, 2), "rows": [(0, 1), (1, 0)],
    "tallies": [(1, 1), (2,)], "whole": SIX, "wholes": [SIX, SIX], "table": plain(3, 1)}

# What is good for parameters that do not mean the same everywhere: in a module, then in a function.
IN_MODULES = {
    "one": {"tables": plain(3, 1), "solving": plain(3, 1), "maps": WHOLE, "mirrors": WHOLE, "kinds": {(1, 1): 1},
            "roots": (1, 1), "words": STEP, "leasts": 1, "loom": (1, 1), "likeness": WHOLE,
            "exchanges": ((WHOLE,), NOUGHT), "joinings": WHOLE, "probes": WHOLE, "middles": WHOLE,
            "bends": {(0, 1): 1, (1, 0): 1}, "parts": NOUGHT, "generals": (1, 1), "ends": (0, 1),
            "nearness": ((0, 1), (1, 1)), "shuttles": WHOLE, "polys": (1, 1), "pairmaps": (("up", 1),),
            "fourforms": (("early", 1, 2),), "fivelines": WHOLE, "tallies": (1, 1)},
    "web": {"pairforms": BOTH_PLAIN, "pairmaps": BOTH_PLAIN, "fourlines": FOUR, "fourforms": FOUR,
            "rounds": BOTH_PLAIN},
    "net": {"rounds": PAIR},
    "kind": {"pairs": (("up", 1),), "pairmaps": (("up", 1),), "paircounts": (("up", 1),),
             "fourlines": (("early", 1, 2),)},
    "name": {"fourlines": ("early", 1, 2)},
    "part": {"nearness": 0, "tallies": 1},
    "prices": {"steadycounts": (-1, 1)},
    "tables": {"wholes": [[[6]]]},
    "coordinates": {"wholes": [[[1]], [[-1]]]},
}
IN_MODULES["other"] = IN_MODULES["one"]
POINTS = (bare(STEP, 3, (1, 0)), bare(STEP, 3, (0, 1)))
IN_FUNCTIONS = {
    "behind": {"one": NOUGHT, "other": NOUGHT}, "web_before": {"web": Web(STEP, 3, (1, 1), [plain(3, 1)])},
    "order_of_word": {"word": [1, 0, 1]}, "kind_of_counts": {"counts": {(0, 1): 1, (1, 0): 0, (1, 1): 1}},
    "block_joining": {"outer": POINTS[0], "inner": POINTS[1]}, "bend_chain": {"one": {(1, 1): 1}},
    "is_bending": {"one": WHOLE, "other": WHOLE}, "shown_bending": {"one": WHOLE, "other": bare(STEP, 3, (1, 1))},
    "is_shown_bending": {"one": WHOLE, "other": WHOLE}, "carried": {"one": WHOLE, "other": WHOLE},
    "fetched": {"one": WHOLE, "other": WHOLE}, "least_maps": {"one": ("up", 1), "other": ("far", 1)},
    "parted_by": {"one": BOTH_PLAIN, "other": bare(PAIR, 3, (1, 1))},
    "alike_by": {"one": BOTH_PLAIN, "other": BOTH_PLAIN},
    "four_maps": {"one": ("early", 1, 2), "other": ("late", 1, 2)}, "is_double_map": {"one": DOUBLE, "other": DOUBLE},
    "double_of": {"web": five_of(DOUBLE)}, "shown_map": {"thing": hidden_map(WHOLE, WHOLE, NOUGHT)},
    "read_net": {"text": net_text(STEP)}, "read_table": {"text": table_text(plain(3, 1))},
    "read_web": {"text": web_text(WHOLE)}, "read_kind": {"text": "1*1,1"}, "whole_split": {"prime": None},
    "led_pairs": {"step": 0}}
for name in ("joining_of", "is_joining_of"):
    IN_FUNCTIONS[name] = {"one": POINTS[0], "other": POINTS[1], "into": (empty(3, 1, 0), plain(3, 1)),
                          "onto": (plain(3, 1), empty(3, 0, 1))}

# Which parameters are webs, and what is raised for others.
NO_WEBS = {"bars": errors.NotLine, "ends": errors.NotLine, "shuttles": errors.NotStraight,
           "pairforms": errors.NotPair, "pairmaps": errors.NotPair, "fourlines": errors.NotFour,
           "fourforms": errors.NotFour}
WEBS = {"one": ("maps", "mirrors", "likeness", "joinings", "probes", "middles", "shuttles")}
WEBS_OF = ("is_bending", "shown_bending", "is_shown_bending", "carried", "fetched", "parted_by", "alike_by",
           "hidden_map", "shown_map")


def given(module, name, parameters):
    """Arguments by name with which this function can be called."""
    told = {**ARGUMENTS, **{key: some[module] for key, some in IN_MODULES.items() if module in some}}
    told.update(IN_FUNCTIONS.get(name, {}))
    return {key: told[key] for key in parameters}


def wanted_kinds(module, name):
    """For each parameter that has to be a Net, Web or Table: which of them."""
    found = {"net": "net", "web": "web", "goal": "table", "two": "table"}
    if module in ("tables", "solving"):
        found["one"] = "table"
    if name in WEBS_OF or (module in WEBS["one"] and name != "behind"):
        found["one"] = found["other"] = "web"
    if name == "word_to":
        found["other"] = "net"
    if name == "map_from":
        found["column"] = "table"
    if name == "table_text":
        found["table"] = "table"
    if name != "Loft":
        found.update(loft="loft", whole="whole")
    if name == "block_joining":
        found["outer"] = found["inner"] = "web"
    return found


def functions():
    for module, told in INTERFACE.items():
        for entry in told.split("; "):
            name, parameters = entry[:-1].split("(")
            yield module, name, [key for key in parameters.split(", ") if key]


class InterfaceTest(unittest.TestCase):

    def test_defined_in_their_files(self):
        for module, name, parameters in functions():
            with open(os.path.join(PACKAGE, module + ".py")) as file:
                defined = [item.name for item in ast.parse(file.read()).body if hasattr(item, "name")]
            self.assertIn(name, defined)

    def test_parameters(self):
        for module, name, parameters in functions():
            thing = getattr(importlib.import_module("boughwebs." + module), name)
            self.assertEqual(list(inspect.signature(thing).parameters), parameters, name)

    def test_methods(self):
        for (module, name), told in METHODS.items():
            thing = getattr(importlib.import_module("boughwebs." + module), name)
            with open(os.path.join(PACKAGE, module + ".py")) as file:
                body = [item for item in ast.parse(file.read()).body if getattr(item, "name", "") == name][0].body
            defined = [item.name for item in body if isinstance(item, ast.FunctionDef)]
            for entry in told.split("; "):
                method, parameters = entry[:-1].split("(")
                self.assertIn(method, defined)
                found = list(inspect.signature(getattr(thing, method)).parameters)
                self.assertEqual(found, ["self"] + [key for key in parameters.split(", ") if key], method)

    def test_whole_split_without_a_prime(self):
        thing = importlib.import_module("boughwebs.wholesplits").whole_split
        self.assertIsNone(inspect.signature(thing).parameters["prime"].default)

    def test_called_by_name_and_by_position(self):
        for module, name, parameters in functions():
            thing = getattr(importlib.import_module("boughwebs." + module), name)
            told = given(module, name, parameters)
            before = copy.deepcopy(told)
            printed = io.StringIO()
            with contextlib.redirect_stdout(printed):
                found = thing(**told)
                again = thing(*[told[key] for key in parameters])
            self.assertEqual(found, again, name)
            self.assertEqual(told, before, name)
            self.assertEqual(printed.getvalue(), "", name)
            as_tuples = {key: tuple(value) if isinstance(value, list) else value for key, value in told.items()}
            self.assertEqual(thing(**as_tuples), found, name)
            if isinstance(found, (list, dict)):
                self.assertIsNot(found, again, name)

    def test_what_is_no_net_web_or_table_comes_first(self):
        kinds = {"net": errors.BadNet, "web": errors.BadWeb, "table": errors.BadTable, "loft": errors.BadLoft,
                 "whole": errors.BadWhole}
        seen = 0
        for module, name, parameters in functions():
            thing = getattr(importlib.import_module("boughwebs." + module), name)
            wanted = wanted_kinds(module, name)
            if name in ("Web", "bare", "Whole"):
                continue
            good = given(module, name, parameters)
            places = [key for key in parameters if key in wanted]
            for at, key in enumerate(places):
                for wrong in (None, 3, True, "net", [], (), {}, object(), ONE if wanted[key] != "net" else NOUGHT[0]):
                    told = {other: good[other] if other in places[:at] else object() for other in parameters}
                    told[key] = wrong
                    with self.assertRaises(NO_WEBS.get(module, kinds[wanted[key]]), msg=name) as caught:
                        thing(**told)
                    self.assertIsNone(getattr(caught.exception, "part", None))
                    seen += 1
        self.assertGreater(seen, 1500)

    def test_web_and_bare_name_the_net(self):
        for wrong in (None, 3, "net", object()):
            for work in (lambda: Web(wrong, 4, None, None), lambda: bare(wrong, 4, None)):
                with self.assertRaises(errors.BadWeb) as caught:
                    work()
                self.assertEqual(caught.exception.part, "net")

    def test_equal_to_no_value_of_another_kind(self):
        web = point_web(PAIR, 3, 0)
        desk = Desk(web_text(web))
        things = [web, PAIR, web.tables[0], SIX, FADED, desk, 1, True, None, "", (), [], {},
                  (PAIR, 3, (1, 0), web.tables)]
        for at, one in enumerate(things[:6]):
            for k, other in enumerate(things):
                self.assertIs(one == other, at == k)
                self.assertIs(other == one, at == k)
                self.assertIs(one != other, at != k)

    def test_cannot_be_iterated_over(self):
        for thing in (PAIR, point_web(PAIR, 3, 0), plain(3, 1), SIX, FADED, Loft(WHOLE)):
            with self.assertRaises(TypeError):
                iter(thing)

    def test_ascending_keys(self):
        kind = {(1, 1): 1, (1, 0): 1, (0, 1): 1}
        self.assertEqual(list(sum_kind(STEP, [kind])), [(0, 1), (1, 0), (1, 1)])
        self.assertEqual(list(kind), [(1, 1), (1, 0), (0, 1)])
        for found in kinds_of(STEP, (3, 3)) + [general_kind(STEP, (2, 3)), part_tallies(STEP, kind)]:
            self.assertEqual(list(found), sorted(found))


if __name__ == "__main__":
    unittest.main()
