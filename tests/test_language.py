"""The package keeps to its subset of Python: the rules (L1 to L28) that a reader of the code can see."""

import ast
import builtins
import io
import os
import re
import tokenize
import unittest

PACKAGE = os.path.join(os.path.dirname(os.path.dirname(os.path.abspath(__file__))), "boughwebs")
BUILTINS = set("len range enumerate zip min max sum abs sorted reversed int str bool bytes list tuple dict isinstance "
               "ord repr any all divmod iter next map super Exception ValueError TypeError KeyError IndexError "
               "LookupError ZeroDivisionError ArithmeticError OverflowError RuntimeError NotImplementedError".split())
METHODS = set("append clear copy count endswith extend find get index insert isalnum isalpha isdigit islower isspace "
              "isupper items join keys ljust lower lstrip partition pop remove replace reverse rfind rjust rpartition "
              "rsplit rstrip setdefault split splitlines startswith strip update upper values zfill "
              "bit_length isascii".split())
LIBRARY = {"heapq": {"heappush", "heappop", "heapify", "heapreplace", "heappushpop"},
           "math": {"gcd", "lcm", "isqrt", "comb", "perm", "factorial"},
           "itertools": {"product", "combinations", "permutations", "chain", "accumulate", "pairwise", "islice",
                         "zip_longest"}}
DOUBLE = {"__init__", "__eq__", "__repr__", "__str__", "__len__"}
STATEMENTS = (ast.Assign, ast.AugAssign, ast.If, ast.While, ast.For, ast.Return, ast.Break, ast.Continue, ast.Pass,
              ast.Raise, ast.Assert, ast.Delete, ast.Try, ast.Expr, ast.FunctionDef)
NOT_AS_NAMES = set("register mro elements open input law version_info with_traceback add_note attrgetter breakpoint "
                   "builtins compile copyright credits delattr dir eval exec exit gc getattr globals hasattr help id "
                   "importlib license locals methodcaller os quit setattr type vars sys".split())
NOT_AT_ALL = set("type typing typing_extensions enum Enum IntEnum StrEnum Flag IntFlag Generic Protocol ABC ABCMeta "
                 "namedtuple NamedTuple TypedDict TYPE_CHECKING abstractmethod".split())
AT_MODULE_LEVEL = (ast.Expr, ast.ImportFrom, ast.FunctionDef, ast.ClassDef, ast.Assign)
ITERATED = {"zip", "enumerate", "reversed", "range", "map"}
TAKING = {"list", "tuple", "dict", "sorted", "sum", "any", "all", "enumerate", "zip", "min", "max", "product",
          "combinations", "permutations"}
CHANGING = {"append", "clear", "extend", "insert", "pop", "remove", "reverse", "setdefault", "update"}
BARRED = "_wall|_pe_|_dcw_|_enum_|_cm_|_twin_re_|_lay_|_law_|_stub_|_sre|_cold$|_record$|_outside$|_tuplegetter$"


def files():
    return sorted(name for name in os.listdir(PACKAGE) if name != "__pycache__")


def text_of(name):
    with open(os.path.join(PACKAGE, name), encoding="utf-8", newline="") as file:
        return file.read()


def trees():
    for name in files():
        tree = ast.parse(text_of(name))
        for node in ast.walk(tree):
            for child in ast.iter_child_nodes(node):
                child.above = node
        yield name, tree


def walked(*kinds):
    for name, tree in trees():
        for node in ast.walk(tree):
            if isinstance(node, kinds):
                yield f"{name}:{getattr(node, 'lineno', 0)}", node


def names_bound(function):
    """Parameters and local names of a function, those of comprehensions and nested functions too."""
    for node in ast.walk(function):
        if isinstance(node, ast.arg):
            yield node.arg
        elif isinstance(node, ast.Name) and isinstance(node.ctx, ast.Store):
            yield node.id
        elif isinstance(node, ast.FunctionDef) and node is not function:
            yield node.name
        elif isinstance(node, ast.ExceptHandler) and node.name is not None:
            yield node.name


def names_class(node):
    """Whether the attribute is part of the name of an object's class, behind a name or an attribute."""
    if node.attr == "__class__":
        return getattr(node.above, "attr", "") == "__name__" and isinstance(node.value, (ast.Name, ast.Attribute))
    return node.attr == "__name__" and getattr(node.value, "attr", "") == "__class__"


def own_methods():
    """The names of all methods of the package's classes."""
    return {item.name for _, node in walked(ast.ClassDef) for item in node.body if isinstance(item, ast.FunctionDef)}


def is_simple(node):
    """What may stand on the right in a finally: names, attributes, literals without a sign, tuples of these."""
    if isinstance(node, ast.Tuple):
        return all(is_simple(item) for item in node.elts)
    while isinstance(node, ast.Attribute):
        node = node.value
    return isinstance(node, (ast.Name, ast.Constant))


def is_final(node):
    """Whether the statement may stand in a finally."""
    if isinstance(node, ast.If):
        asked = node.test
        told = isinstance(asked, ast.Compare) and isinstance(asked.ops[0], (ast.Is, ast.IsNot))
        none = told and getattr(asked.comparators[0], "value", 0) is None
        return none and is_simple(asked.left) and all(is_final(item) for item in node.body + node.orelse)
    if isinstance(node, ast.Assign):
        return is_simple(node.value) and all(is_simple(target) for target in node.targets)
    return isinstance(node, ast.Pass)


def docstrings(tree):
    for node in ast.walk(tree):
        if isinstance(node, (ast.Module, ast.ClassDef, ast.FunctionDef)) and ast.get_docstring(node) is not None:
            yield node.body[0].value


def root_name(node):
    while isinstance(node, (ast.Attribute, ast.Subscript)):
        node = node.value
    return node.id if isinstance(node, ast.Name) else None


class FilesTest(unittest.TestCase):

    def test_names(self):
        self.assertIn("__init__.py", files())
        self.assertLessEqual(len(files()), 100)
        for name in files():
            self.assertRegex(name, r"^(__init__|__main__|[a-z][a-z0-9_]*)\.py$")
            word = name[:-3]
            self.assertFalse(word in dir(builtins) or word in NOT_AT_ALL, name)
            self.assertIsNone(re.match("law_|tests?$|test_|testing|site|usercustomize|conftest", word), name)

    def test_characters_and_size(self):
        for name in files():
            text = text_of(name)
            self.assertIsNone(re.search(r"[^ -~\n]", text), name)
            self.assertTrue(text.endswith("\n"), name)
            lines = text.split("\n")[:-1]
            self.assertLessEqual(len(lines), 399, name)
            self.assertLessEqual(max([len(line) for line in lines], default=0), 120, name)

    def test_functions_are_small(self):
        for where, node in walked(ast.FunctionDef):
            self.assertLessEqual(node.end_lineno - node.lineno + 1, 40, where)

    def test_imports(self):
        defined = {name[:-3]: {item.name for item in tree.body if hasattr(item, "name")}
                   | {target.id for item in tree.body if isinstance(item, ast.Assign) for target in item.targets}
                   for name, tree in trees()}
        led = {}
        for where, node in walked(ast.Import, ast.ImportFrom):
            self.assertIsInstance(node, ast.ImportFrom, where)
            self.assertIsInstance(node.above, ast.Module, where)
            self.assertEqual(node.level, 0, where)
            self.assertTrue(all(alias.asname is None for alias in node.names), where)
            told = {alias.name for alias in node.names}
            if node.module in LIBRARY:
                self.assertLessEqual(told, LIBRARY[node.module], where)
            else:
                package, module = node.module.split(".")
                self.assertEqual(package, "boughwebs", where)
                self.assertLessEqual(told, defined[module], where)
                led.setdefault(where.split(":")[0][:-3], set()).add(module)
        while led:
            free = [module for module in led if not led[module] & set(led)]
            self.assertTrue(free, f"files import from each other: {sorted(led)}")
            led = {module: led[module] for module in led if module not in free}

    def test_module_level(self):
        for name, tree in trees():
            bound = []
            for item in tree.body:
                where = f"{name}:{item.lineno}"
                self.assertIsInstance(item, AT_MODULE_LEVEL, where)
                if isinstance(item, ast.Expr):
                    self.assertTrue(item is tree.body[0] and isinstance(item.value, ast.Constant), where)
                elif isinstance(item, ast.Assign):
                    self.assertEqual(len(item.targets), 1, where)
                    ast.literal_eval(item.value)
                    bound.append(item.targets[0].id)
                elif isinstance(item, ast.ImportFrom):
                    bound += [alias.name for alias in item.names]
                else:
                    bound.append(item.name)
            self.assertEqual(len(bound), len(set(bound)), name)
            for item in ast.walk(tree):
                if isinstance(item, ast.ImportFrom):
                    for alias in item.names:
                        used = [node for node in ast.walk(tree) if isinstance(node, ast.Name) and node.id == alias.name]
                        self.assertTrue(used, f"{name}: {alias.name} is imported and not used")


class NamesTest(unittest.TestCase):

    def test_builtins_and_names(self):
        for name, tree in trees():
            top = {item.name for item in tree.body if hasattr(item, "name")}
            top |= {alias.name for item in tree.body if isinstance(item, ast.ImportFrom) for alias in item.names}
            top |= {target.id for item in tree.body if isinstance(item, ast.Assign) for target in item.targets}
            for function in ast.walk(tree):
                if isinstance(function, ast.FunctionDef):
                    bound = set(names_bound(function))
                    outer = function.above
                    while not isinstance(outer, ast.Module):
                        bound |= set(names_bound(outer)) if isinstance(outer, ast.FunctionDef) else set()
                        outer = outer.above
                    for node in ast.walk(function):
                        if isinstance(node, ast.Name) and isinstance(node.ctx, ast.Load):
                            self.assertTrue(node.id in bound | top | BUILTINS, f"{name}:{node.lineno} {node.id}")

    def test_no_name_twice(self):
        for name, tree in trees():
            taken = {item.name for item in tree.body if isinstance(item, (ast.ClassDef, ast.FunctionDef))}
            taken |= {alias.name for item in tree.body if isinstance(item, ast.ImportFrom) for alias in item.names}
            taken |= set(dir(builtins))
            for function in ast.walk(tree):
                if isinstance(function, ast.FunctionDef):
                    self.assertEqual(sorted(set(names_bound(function)) & taken), [], f"{name}:{function.lineno}")

    def test_names_are_plain(self):
        for name, tree in trees():
            for node in ast.walk(tree):
                told = [getattr(node, key, None) for key in ("id", "name", "arg", "attr")]
                for word in [word for word in told if isinstance(word, str)]:
                    if isinstance(node, ast.Attribute) and names_class(node):
                        continue
                    fine = re.match(r"^(_?[A-Za-z][A-Za-z0-9_]*|_)$", word) or word in DOUBLE
                    self.assertTrue(fine, f"{name}: {word}")
                    self.assertIsNone(re.match(BARRED, word), name)
                    if not isinstance(node, ast.Attribute):
                        self.assertNotIn(word, NOT_AS_NAMES, name)

    def test_words_that_do_not_occur(self):
        for name, tree in trees():
            told = {(node.lineno, node.col_offset) for node in docstrings(tree)}
            for token in tokenize.generate_tokens(io.StringIO(text_of(name)).readline):
                if token.type in (tokenize.NAME, tokenize.STRING) and token.start not in told:
                    found = set(re.findall(r"\w+", token.string)) & NOT_AT_ALL
                    self.assertEqual(found, set(), f"{name}:{token.start}")
                if token.type == tokenize.STRING:
                    self.assertNotIn("%", token.string, f"{name}:{token.start}")
                    self.assertIsNone(re.search(r"\\[^nt\\'\"]", token.string), f"{name}:{token.start}")

    def test_no_error_is_told_but_by_its_own_name(self):
        errors = {item.name for name, tree in trees() if name == "errors.py" for item in tree.body
                  if isinstance(item, ast.ClassDef)}
        for where, node in walked(ast.Raise):
            self.assertIsNone(node.cause, where)
            self.assertIsInstance(node.exc, ast.Call, where)
            self.assertIn(node.exc.func.id, errors, where)
            self.assertEqual(node.exc.keywords, [], where)


class StatementsTest(unittest.TestCase):

    def test_statements(self):
        for name, tree in trees():
            for function in ast.walk(tree):
                if isinstance(function, ast.FunctionDef):
                    self.assertEqual(function.decorator_list, [], f"{name}:{function.lineno}")
                    for node in ast.walk(function):
                        if isinstance(node, ast.stmt):
                            self.assertIsInstance(node, STATEMENTS, f"{name}:{node.lineno}")

    def test_nothing_that_is_not_allowed(self):
        barred = (ast.GeneratorExp, ast.Set, ast.SetComp, ast.Div, ast.Pow, ast.MatMult, ast.Await, ast.Yield,
                  ast.YieldFrom, ast.NamedExpr, ast.Global, ast.Nonlocal, ast.AsyncFunctionDef)
        for where, node in walked(*barred):
            self.fail(f"{where}: {type(node).__name__}")
        for where, node in walked(ast.Constant):
            self.assertNotIsInstance(node.value, (float, complex), where)
            self.assertIsNot(node.value, Ellipsis, where)

    def test_is(self):
        for where, node in walked(ast.Compare):
            for sign, other in zip(node.ops, node.comparators):
                if isinstance(sign, (ast.Is, ast.IsNot)):
                    self.assertIsInstance(other, ast.Constant, where)
                    self.assertIn(repr(other.value), ("None", "True", "False"), where)

    def test_methods(self):
        own = own_methods()
        for where, node in walked(ast.Call):
            if isinstance(node.func, ast.Attribute):
                above = isinstance(node.func.value, ast.Call) and getattr(node.func.value.func, "id", "") == "super"
                known = METHODS | own - DOUBLE
                self.assertTrue(node.func.attr in known or (above and node.func.attr == "__init__"), where)
                self.assertEqual(node.keywords, [], where)

    def test_methods_and_attributes_have_unlike_names(self):
        own = own_methods()
        for where, node in walked(ast.Attribute):
            if isinstance(node.ctx, ast.Store):
                self.assertNotIn(node.attr, own | METHODS, where)
                self.assertIsInstance(node.value, ast.Name, where)
            elif not names_class(node) and not (isinstance(node.above, ast.Call) and node.above.func is node):
                self.assertNotIn(node.attr, own | METHODS, where)

    def test_lengths(self):
        for where, node in walked(ast.FunctionDef):
            if node.name == "__len__":
                told = [item for item in ast.walk(node) if isinstance(item, ast.Return)]
                self.assertEqual([item.value.func.id for item in told], ["len"], where)
            if node.name == "__init__":
                self.assertFalse([item for item in ast.walk(node) if isinstance(item, ast.Return)], where)

    def test_classes(self):
        classes = {node.name for _, node in walked(ast.ClassDef)}
        for where, node in walked(ast.ClassDef):
            self.assertEqual(node.decorator_list, [], where)
            for item in node.body:
                if isinstance(item, ast.FunctionDef) and item.name.startswith("__"):
                    self.assertIn(item.name, DOUBLE, where)
        for where, node in walked(ast.Name):
            if node.id in classes:
                above = node.above
                called = isinstance(above, ast.Call) and above.func is node
                asked = isinstance(above, ast.Call) and getattr(above.func, "id", "") == "isinstance"
                caught = isinstance(above, ast.ExceptHandler)
                self.assertTrue(called or asked or caught or isinstance(above, ast.ClassDef), where)

    def test_caught_errors(self):
        errors = {item.name for name, tree in trees() if name == "errors.py" for item in tree.body
                  if isinstance(item, ast.ClassDef)}
        for where, node in walked(ast.Try):
            self.assertEqual(node.orelse, [], where)
            self.assertTrue(all(is_final(item) for item in node.finalbody), where)
            for handler in node.handlers:
                self.assertIn(getattr(handler.type, "id", None), errors | {"KeyError", "ZeroDivisionError"}, where)

    def test_lambdas(self):
        seen = {}
        for where, node in walked(ast.Lambda):
            self.assertEqual(node.args.defaults, [], where)
            self.assertNotIn(where, seen, where)
            seen[where] = True

    def test_iterated_at_once(self):
        for where, node in walked(ast.Call):
            views = isinstance(node.func, ast.Attribute) and node.func.attr in ("items", "keys", "values")
            if views or getattr(node.func, "id", "") in ITERATED:
                above = node.above
                looped = isinstance(above, (ast.For, ast.comprehension)) and above.iter is node
                taker = getattr(above.func, "id", "") if isinstance(above, ast.Call) else ""
                taken = taker in TAKING and above.args[0] is node
                both = taker in ("enumerate", "reversed", "zip", "len")
                self.assertTrue(looped or taken or both, where)

    def test_inner_comprehensions_have_names_of_their_own(self):
        kinds = (ast.ListComp, ast.DictComp)
        for where, node in walked(*kinds):
            inner = {part.id for loop in node.generators for part in ast.walk(loop.target)
                     if isinstance(part, ast.Name)}
            outer, above, nested = set(), node.above, False
            while not isinstance(above, ast.FunctionDef):
                if isinstance(above, kinds):
                    nested = True
                    outer |= {part.id for loop in above.generators for part in ast.walk(loop.target)
                              if isinstance(part, ast.Name)}
                above = above.above
            for part in ast.walk(above):
                if isinstance(part, ast.Name) and isinstance(part.ctx, ast.Store):
                    over = part.above
                    while isinstance(over, (ast.Tuple, ast.List, ast.Name, ast.Starred)):
                        over = over.above
                    if not isinstance(over, ast.comprehension):
                        outer.add(part.id)
            outer |= {parameter.arg for parameter in above.args.args}
            self.assertTrue(not nested or not inner & outer - {"_"}, f"{where} {sorted(inner & outer)}")

    def test_what_is_iterated_over_is_not_modified(self):
        for where, node in walked(ast.For):
            iterated = {root_name(part) for part in ast.walk(node.iter) if isinstance(part, ast.Name)}
            if isinstance(node.iter, ast.Call) and getattr(node.iter.func, "id", "") in ("range", "list", "sorted"):
                iterated = set()
            for item in node.body:
                for part in ast.walk(item):
                    changed = None
                    if isinstance(part, ast.Call) and getattr(part.func, "attr", "") in CHANGING:
                        changed = root_name(part.func.value)
                    elif isinstance(part, ast.Subscript) and isinstance(part.ctx, (ast.Store, ast.Del)):
                        changed = root_name(part)
                    self.assertFalse(changed is not None and changed in iterated, f"{where} {changed}")


if __name__ == "__main__":
    unittest.main()
