"""The interface and point [3]: names, files, parameters; what is handed in stays as it is."""

import ast
import contextlib
import copy
import importlib
import inspect
import io
import os
import unittest

from boughwebs import errors
from boughwebs.kinds import general_kind, kinds_of, sum_kind
from boughwebs.mirrors import point_web
from boughwebs.tables import plain
from boughwebs.webs import Web, bare
from tests.drawn import ONE, PAIR, STEP

PACKAGE = os.path.join(os.path.dirname(os.path.dirname(os.path.abspath(__file__))), "boughwebs")

INTERFACE = {
    "tables": "Table(prime, tall, wide, lines); times(one, two); plus(one, two); minus(one, two); "
              "scaled(one, number); plain(prime, size); empty(prime, tall, wide); across(one); beside(tables); "
              "over(tables); corner(tables)",
    "solving": "tidy(one); rank(one); kernel(one); left_over(one); solved(one, goal); inverse(one); is_whole(one); "
               "count_whole(prime, size)",
    "nets": "Net(places, arrows); sinks(net); sources(net); is_tree(net); turned_net(net)",
    "roots": "pair_form(net, one, other); form(net, row); shape(net); is_shape(net, thing); roots(net); "
             "mirrored_row(net, place, row); highest(net)",
    "webs": "Web(net, prime, sizes, tables); bare(net, prime, sizes); sum_of(webs); changed(web, coordinates); "
            "turned_web(web)",
    "maps": "maps(one, other); count_maps(one, other); is_map(one, other, thing); behind(one, other); "
            "is_alike(one, other, thing); kernel_web(one, other, mapping); image_web(one, other, mapping); "
            "rest_web(one, other, mapping)",
    "kinds": "is_kind(net, thing); kind_row(net, kind); sum_kind(net, kinds); kinds_of(net, row); "
             "maps_of_kinds(net, one, other); joinings_of_kinds(net, one, other); general_kind(net, row); "
             "is_general(net, kind)",
    "mirrors": "mirrored_net(net, place); point_web(net, prime, place); inflow(web, place); outflow(web, place); "
               "mirrored(web, place); lost_points(web, place); mirrored_map(one, other, mapping, place); "
               "mirrored_again(web, place); split_off(web, place)",
}

NOUGHT = (plain(3, 1), plain(3, 1))


def arguments(net, web, table):
    """Something good for each parameter that is no net, web or table, by its name."""
    return {"prime": 3, "tall": 1, "wide": 1, "lines": [[1]], "size": 1, "number": 2, "places": 2, "arrows": [(0, 1)],
            "row": (1, 1), "thing": None, "sizes": (1, 1), "tables": [table], "webs": [web, web], "place": 0,
            "coordinates": list(NOUGHT), "mapping": NOUGHT, "kind": {(1, 1): 1}, "kinds": [{(1, 1): 1}, {}],
            "net": net, "web": web, "goal": table, "two": table}


def given(module, name, parameters):
    """Arguments by name with which this function can be called."""
    web = Web(STEP, 3, (1, 1), [plain(3, 1)])
    found = {key: arguments(STEP, web, plain(3, 1)).get(key) for key in parameters}
    many = {"tables": plain(3, 1), "solving": plain(3, 1), "maps": web, "mirrors": web, "kinds": {(1, 1): 1}}
    for key in ("one", "other"):
        if key in found:
            found[key] = (1, 1) if module == "roots" else NOUGHT if name == "behind" else many[module]
    if name == "Web":
        found["tables"] = [plain(3, 1)]
    return found


def functions():
    for module, told in INTERFACE.items():
        for entry in told.split("; "):
            name, parameters = entry[:-1].split("(")
            yield module, name, parameters.split(", ")


class InterfaceTest(unittest.TestCase):

    def test_defined_in_their_files(self):
        for module, name, parameters in functions():
            with open(os.path.join(PACKAGE, module + ".py")) as file:
                defined = [item.name for item in ast.parse(file.read()).body if hasattr(item, "name")]
            self.assertIn(name, defined)

    def test_parameters(self):
        for module, name, parameters in functions():
            thing = getattr(importlib.import_module("boughwebs." + module), name)
            self.assertEqual(list(inspect.signature(thing).parameters), parameters, name)

    def test_called_by_name_and_by_position(self):
        for module, name, parameters in functions():
            thing = getattr(importlib.import_module("boughwebs." + module), name)
            told = given(module, name, parameters)
            before = copy.deepcopy(told)
            printed = io.StringIO()
            with contextlib.redirect_stdout(printed):
                found = thing(**told)
                again = thing(*[told[key] for key in parameters])
            self.assertEqual(found, again, name)
            self.assertEqual(told, before, name)
            self.assertEqual(printed.getvalue(), "", name)
            as_tuples = {key: tuple(value) if isinstance(value, list) else value for key, value in told.items()}
            self.assertEqual(thing(**as_tuples), found, name)
            if isinstance(found, (list, dict)):
                self.assertIsNot(found, again, name)

    def test_what_is_no_net_web_or_table_comes_first(self):
        kinds = {"net": errors.BadNet, "web": errors.BadWeb, "table": errors.BadTable}
        seen = 0
        for module, name, parameters in functions():
            thing = getattr(importlib.import_module("boughwebs." + module), name)
            wanted = {"net": "net", "web": "web", "goal": "table", "two": "table"}
            if module in ("tables", "solving"):
                wanted["one"] = "table"
            if module in ("maps", "mirrors") and name != "behind":
                wanted["one"] = wanted["other"] = "web"
            if name in ("Web", "bare"):
                continue
            good = given(module, name, parameters)
            places = [key for key in parameters if key in wanted]
            for at, key in enumerate(places):
                for wrong in (None, 3, True, "net", [], (), {}, object(), ONE if wanted[key] != "net" else NOUGHT[0]):
                    told = {other: good[other] if other in places[:at] else object() for other in parameters}
                    told[key] = wrong
                    with self.assertRaises(kinds[wanted[key]]) as caught:
                        thing(**told)
                    self.assertIsNone(getattr(caught.exception, "part", None))
                    seen += 1
        self.assertGreater(seen, 300)

    def test_web_and_bare_name_the_net(self):
        for wrong in (None, 3, "net", object()):
            for work in (lambda: Web(wrong, 4, None, None), lambda: bare(wrong, 4, None)):
                with self.assertRaises(errors.BadWeb) as caught:
                    work()
                self.assertEqual(caught.exception.part, "net")

    def test_equal_to_no_value_of_another_kind(self):
        web = point_web(PAIR, 3, 0)
        things = [web, PAIR, web.tables[0], 1, True, None, "", (), [], {}, (PAIR, 3, (1, 0), web.tables)]
        for at, one in enumerate(things[:3]):
            for k, other in enumerate(things):
                self.assertIs(one == other, at == k)
                self.assertIs(other == one, at == k)
                self.assertIs(one != other, at != k)

    def test_cannot_be_iterated_over(self):
        for thing in (PAIR, point_web(PAIR, 3, 0), plain(3, 1)):
            with self.assertRaises(TypeError):
                iter(thing)

    def test_ascending_keys(self):
        kind = {(1, 1): 1, (1, 0): 1, (0, 1): 1}
        self.assertEqual(list(sum_kind(STEP, [kind])), [(0, 1), (1, 0), (1, 1)])
        self.assertEqual(list(kind), [(1, 1), (1, 0), (0, 1)])
        for found in kinds_of(STEP, (3, 3)) + [general_kind(STEP, (2, 3))]:
            self.assertEqual(list(found), sorted(found))


if __name__ == "__main__":
    unittest.main()
