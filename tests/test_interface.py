"""The interface and point [3]: names, files, parameters; what is handed in stays as it is."""

import ast
import contextlib
import copy
import importlib
import inspect
import io
import os
import unittest

from boughwebs import errors
from boughwebs.kinds import general_kind, kinds_of, sum_kind
from boughwebs.mirrors import point_web
from boughwebs.tables import plain
from boughwebs.webs import Web, bare
from tests.drawn import ONE, PAIR, STEP

PACKAGE = os.path.join(os.path.dirname(os.path.dirname(os.path.abspath(__file__))), "boughwebs")

INTERFACE = {
    "tables": "Table(prime, tall, wide, lines); times(one, two); plus(one, two); minus(one, two); "
              "scaled(one, number); plain(prime, size); empty(prime, tall, wide); across(one); beside(tables); "
              "over(tables); corner(tables)",
    "solving": "tidy(one); rank(one); kernel(one); left_over(one); solved(one, goal); inverse(one); is_whole(one); "
               "count_whole(prime, size)",
    "nets": "Net(places, arrows); sinks(net); sources(net); is_tree(net); turned_net(net)",
    "roots": "pair_form(net, one, other); form(net, row); shape(net); is_shape(net, thing); roots(net); "
             "mirrored_row(net, place, row); highest(net)",
    "webs": "Web(net, prime, sizes, tables); bare(net, prime, sizes); sum_of(webs); changed(web, coordinates); "
            "turned_web(web)",
    "maps": "maps(one, other); count_maps(one, other); is_map(one, other, thing); behind(one, other); "
            "is_alike(one, other, thing); kernel_web(one, other, mapping); image_web(one, other, mapping); "
            "rest_web(one, other, mapping)",
    "kinds": "is_kind(net, thing); kind_row(net, kind); sum_kind(net, kinds); kinds_of(net, row); "
             "maps_of_kinds(net, one, other); joinings_of_kinds(net, one, other); general_kind(net, row); "
             "is_general(net, kind)",
    "mirrors": "mirrored_net(net, place); point_web(net, prime, place); inflow(web, place); outflow(web, place); "
               "mirrored(web, place); lost_points(web, place); mirrored_map(one, other, mapping, place); "
               "mirrored_again(web, place); split_off(web, place)",
    "words": "is_word(net, thing); net_after(net, word); row_after(net, word, row); web_after(web, word); "
             "row_before(net, word, row); web_before(net, word, web); word_with(net, counts); word_to(net, other); "
             "sink_word(net); shifted_web(web); unshifted_web(web); shifted_row(net, row); unshifted_row(net, row)",
    "leasts": "all_ways(net, one, other); first_web(net, prime, place); last_web(net, prime, place); "
              "map_from(web, place, column); root_word(net, root); least_web(net, prime, root); shown_least(web)",
    "loom": "loom(net); loom_order(net); spot_of(net, root); turn_counts(net); partners(net); round_number(net); "
            "next_root(net, root); last_root(net, root); successors(net, root); predecessors(net, root); "
            "maps_ahead(net, root); stands_before(net, one, other); is_order(net, thing); order_of_word(net, word); "
            "word_of_order(net, order)",
    "meshes": "middle_of_mesh(net, prime, root); mesh_of(net, prime, root); is_mesh(net, prime, root, thing); "
              "through_or_back(net, prime, root, web, mapping); counts_of_kind(net, kind); "
              "kind_of_counts(net, counts)",
    "partings": "parted(web, turn); is_parted(web, turn, thing)",
    "splits": "whole_of(net, prime, kind); is_least(web); kind_of(web); split_web(web); is_split(web, thing); "
              "summands(web); is_summands(web, thing)",
    "ranks": "pairing_table(web, root); counts_of(web); peeled(web); count_turns(web); count_fading(web)",
    "likeness": "alike(one, other); is_alike_told(one, other, thing); summand(one, other); "
                "is_summand_told(one, other, thing); shared_kind(one, other)",
    "exchanges": "exchange(web, one, other, at); exchanges(web, one, other); is_exchanges(web, one, other, thing); "
                 "matched(web, one, other); is_matched(web, one, other, thing)",
}

NOUGHT = (plain(3, 1), plain(3, 1))


def arguments(net, web, table):
    """Something good for each parameter, by its name."""
    return {"prime": 3, "tall": 1, "wide": 1, "lines": [[1]], "size": 1, "number": 2, "places": 2, "arrows": [(0, 1)],
            "row": (1, 1), "thing": None, "sizes": (1, 1), "tables": [table], "webs": [web, web], "place": 0,
            "coordinates": list(NOUGHT), "mapping": NOUGHT, "kind": {(1, 1): 1}, "kinds": [{(1, 1): 1}, {}],
            "net": net, "web": web, "goal": table, "two": table, "word": [1, 0], "column": table, "root": (1, 1),
            "order": [(0, 1), (1, 1), (1, 0)], "turn": NOUGHT, "at": 0, "counts": (1, 1)}


def special(module, name, web, table):
    """What is good for parameters that do not mean the same everywhere."""
    both = {"tables": table, "solving": table, "maps": web, "mirrors": web, "kinds": {(1, 1): 1}, "roots": (1, 1),
            "words": web.net, "leasts": 1, "loom": (1, 1), "likeness": web, "exchanges": ((web,), NOUGHT)}.get(module)
    found = {"one": NOUGHT, "other": NOUGHT} if name == "behind" else {"one": both, "other": both}
    if name == "web_before":
        found["web"] = Web(web.net, 3, (1, 1), [plain(3, 1)])
    if name == "order_of_word":
        found["word"] = [1, 0, 1]
    if name == "kind_of_counts":
        found["counts"] = {(0, 1): 1, (1, 0): 0, (1, 1): 1}
    return found


def given(module, name, parameters):
    """Arguments by name with which this function can be called."""
    web = Web(STEP, 3, (1, 1), [plain(3, 1)])
    told = {**arguments(STEP, web, plain(3, 1)), **special(module, name, web, plain(3, 1))}
    return {key: told[key] for key in parameters}


def functions():
    for module, told in INTERFACE.items():
        for entry in told.split("; "):
            name, parameters = entry[:-1].split("(")
            yield module, name, parameters.split(", ")


class InterfaceTest(unittest.TestCase):

    def test_defined_in_their_files(self):
        for module, name, parameters in functions():
            with open(os.path.join(PACKAGE, module + ".py")) as file:
                defined = [item.name for item in ast.parse(file.read()).body if hasattr(item, "name")]
            self.assertIn(name, defined)

    def test_parameters(self):
        for module, name, parameters in functions():
            thing = getattr(importlib.import_module("boughwebs." + module), name)
            self.assertEqual(list(inspect.signature(thing).parameters), parameters, name)

    def test_called_by_name_and_by_position(self):
        for module, name, parameters in functions():
            thing = getattr(importlib.import_module("boughwebs." + module), name)
            told = given(module, name, parameters)
            before = copy.deepcopy(told)
            printed = io.StringIO()
            with contextlib.redirect_stdout(printed):
                found = thing(**told)
                again = thing(*[told[key] for key in parameters])
            self.assertEqual(found, again, name)
            self.assertEqual(told, before, name)
            self.assertEqual(printed.getvalue(), "", name)
            as_tuples = {key: tuple(value) if isinstance(value, list) else value for key, value in told.items()}
            self.assertEqual(thing(**as_tuples), found, name)
            if isinstance(found, (list, dict)):
                self.assertIsNot(found, again, name)

    def test_what_is_no_net_web_or_table_comes_first(self):
        kinds = {"net": errors.BadNet, "web": errors.BadWeb, "table": errors.BadTable}
        seen = 0
        for module, name, parameters in functions():
            thing = getattr(importlib.import_module("boughwebs." + module), name)
            wanted = {"net": "net", "web": "web", "goal": "table", "two": "table"}
            if module in ("tables", "solving"):
                wanted["one"] = "table"
            if module in ("maps", "mirrors", "likeness") and name != "behind":
                wanted["one"] = wanted["other"] = "web"
            if name == "word_to":
                wanted["other"] = "net"
            if name == "map_from":
                wanted["column"] = "table"
            if name in ("Web", "bare"):
                continue
            good = given(module, name, parameters)
            places = [key for key in parameters if key in wanted]
            for at, key in enumerate(places):
                for wrong in (None, 3, True, "net", [], (), {}, object(), ONE if wanted[key] != "net" else NOUGHT[0]):
                    told = {other: good[other] if other in places[:at] else object() for other in parameters}
                    told[key] = wrong
                    with self.assertRaises(kinds[wanted[key]]) as caught:
                        thing(**told)
                    self.assertIsNone(getattr(caught.exception, "part", None))
                    seen += 1
        self.assertGreater(seen, 800)

    def test_web_and_bare_name_the_net(self):
        for wrong in (None, 3, "net", object()):
            for work in (lambda: Web(wrong, 4, None, None), lambda: bare(wrong, 4, None)):
                with self.assertRaises(errors.BadWeb) as caught:
                    work()
                self.assertEqual(caught.exception.part, "net")

    def test_equal_to_no_value_of_another_kind(self):
        web = point_web(PAIR, 3, 0)
        things = [web, PAIR, web.tables[0], 1, True, None, "", (), [], {}, (PAIR, 3, (1, 0), web.tables)]
        for at, one in enumerate(things[:3]):
            for k, other in enumerate(things):
                self.assertIs(one == other, at == k)
                self.assertIs(other == one, at == k)
                self.assertIs(one != other, at != k)

    def test_cannot_be_iterated_over(self):
        for thing in (PAIR, point_web(PAIR, 3, 0), plain(3, 1)):
            with self.assertRaises(TypeError):
                iter(thing)

    def test_ascending_keys(self):
        kind = {(1, 1): 1, (1, 0): 1, (0, 1): 1}
        self.assertEqual(list(sum_kind(STEP, [kind])), [(0, 1), (1, 0), (1, 1)])
        self.assertEqual(list(kind), [(1, 1), (1, 0), (0, 1)])
        for found in kinds_of(STEP, (3, 3)) + [general_kind(STEP, (2, 3))]:
            self.assertEqual(list(found), sorted(found))


if __name__ == "__main__":
    unittest.main()
