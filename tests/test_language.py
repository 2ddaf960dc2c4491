"""The files of the package keep the rules of the subset that can be seen in their syntax."""

import ast
import builtins
import pathlib
import re
import unittest

PACKAGE = pathlib.Path(__file__).resolve().parent.parent / "keepsgoing"

LIBRARY = {
    "heapq": {"heappush", "heappop", "heapify", "heapreplace", "heappushpop"},
    "math": {"gcd", "lcm", "isqrt", "comb", "perm", "factorial"},
    "itertools": {"product", "combinations", "permutations", "chain", "accumulate", "pairwise",
                  "islice", "zip_longest"},
    "collections": {"defaultdict"},
}
BUILTINS = set(
    "len range enumerate zip min max sum abs sorted reversed int str bool list tuple dict set "
    "isinstance ord repr any all divmod pow getattr hasattr setattr map iter next super property "
    "staticmethod classmethod ValueError TypeError KeyError IndexError LookupError "
    "ZeroDivisionError ArithmeticError OverflowError RuntimeError NotImplementedError "
    "AttributeError Exception NotImplemented".split())
METHODS = set(
    "append clear copy count endswith extend find get index insert isalnum isalpha isdigit "
    "islower isspace isupper items join keys ljust lower lstrip partition pop remove replace "
    "reverse rfind rjust rpartition rsplit rstrip setdefault split splitlines startswith strip "
    "update upper values zfill bit_length sort title capitalize isascii isdecimal "
    "isnumeric removeprefix removesuffix rindex add discard".split())
NOWHERE = {"register", "mro", "elements", "open", "input", "law", "version_info",
           "with_traceback", "add_note"}
NOT_NAMES = set(
    "attrgetter breakpoint builtins compile copyright credits delattr dir eval exec exit gc "
    "globals help id importlib license locals methodcaller os quit type vars sys".split())
WORDS = ("type typing typing_extensions enum Enum IntEnum StrEnum Flag IntFlag Generic Protocol "
         "ABC ABCMeta namedtuple NamedTuple TypedDict TYPE_CHECKING abstractmethod").split()
NO_ATTRIBUTES = set(
    "items keys values pop update append clear extend insert remove reverse setdefault sort args "
    "encode decode hex fromhex format format_map mro as_integer_ratio bit_count conjugate "
    "from_bytes is_integer to_bytes".split())
DUNDERS = {"__init__", "__enter__", "__exit__"}
TAKERS = {"list", "tuple", "dict", "sorted", "sum", "any", "all", "enumerate", "zip", "min", "max",
          "permutations"}
VIEWS = {"zip", "enumerate", "reversed", "range"}


def parsed():
    return {path.stem: (path.read_text(), ast.parse(path.read_text()))
            for path in sorted(PACKAGE.glob("*.py"))}


def parents(tree):
    return {child: node for node in ast.walk(tree) for child in ast.iter_child_nodes(node)}


def functions(tree):
    return [node for node in ast.walk(tree) if isinstance(node, ast.FunctionDef)]


def is_generator(function):
    return any(isinstance(node, (ast.Yield, ast.YieldFrom)) for node in ast.walk(function))


def without_docstrings(tree):
    for node in ast.walk(tree):
        body = getattr(node, "body", None)
        if isinstance(body, list) and body and isinstance(body[0], ast.Expr):
            value = body[0].value
            if isinstance(value, ast.Constant) and isinstance(value.value, str):
                body[0] = ast.Pass()
    return tree


class Language(unittest.TestCase):
    def setUp(self):
        self.files = parsed()

    def bad(self, name, node, why):
        self.fail(f"{name}.py:{getattr(node, 'lineno', '?')}: {why}")

    def test_folder(self):
        names = [p.name for p in PACKAGE.iterdir() if p.name != "__pycache__"]
        self.assertLessEqual(len(names), 100)
        for name in names:
            self.assertRegex(name, r"^[a-z0-9_]+\.py$")
            self.assertFalse(hasattr(builtins, name[:-3]) and name != "__init__.py", name)
            self.assertNotIn(name[:-3], NOWHERE | NOT_NAMES)

    def test_size(self):
        for name, (text, tree) in self.files.items():
            lines = text.splitlines()
            self.assertLessEqual(len(lines), 399, name)
            for line in lines:
                self.assertLessEqual(len(line), 120, (name, line))
                self.assertRegex(line, r"^[ -~]*$", name)
            for node in functions(tree):
                self.assertLessEqual(node.end_lineno - node.lineno + 1, 40, (name, node.name))

    def test_imports(self):
        edges = {}
        for name, (_, tree) in self.files.items():
            edges[name] = []
            for node in ast.walk(tree):
                if isinstance(node, ast.Import):
                    self.bad(name, node, "import")
                if not isinstance(node, ast.ImportFrom):
                    continue
                self.assertIn(node, tree.body)
                self.assertEqual(node.level, 0)
                self.assertTrue(all(each.asname is None for each in node.names))
                if node.module in LIBRARY:
                    self.assertLessEqual({e.name for e in node.names}, LIBRARY[node.module])
                    continue
                package, _, module = node.module.partition(".")
                self.assertEqual(package, "keepsgoing")
                edges[name].append(module)
                defined = self.defined(self.files[module][1])
                used = {n.id for n in ast.walk(tree) if isinstance(n, ast.Name)}
                for each in node.names:
                    self.assertIn(each.name, defined, name)
                    self.assertIn(each.name, used, f"{name}: {each.name} is not used")
        self.assert_no_ring(edges)

    def defined(self, tree):
        found = set()
        for node in tree.body:
            if isinstance(node, (ast.FunctionDef, ast.ClassDef)):
                found.add(node.name)
            if isinstance(node, ast.Assign):
                found.add(node.targets[0].id)
        return found

    def assert_no_ring(self, edges):
        done = {}

        def visit(name, path):
            self.assertNotIn(name, path)
            if name not in done:
                for other in edges[name]:
                    visit(other, path + [name])
                done[name] = True
        for name in edges:
            visit(name, [])

    def test_module_level(self):
        for name, (_, tree) in self.files.items():
            bound = []
            for node in tree.body:
                if isinstance(node, ast.Expr):
                    self.assertIs(node, tree.body[0])
                elif isinstance(node, ast.Assign):
                    self.assertEqual(len(node.targets), 1)
                    self.assertIsInstance(node.targets[0], ast.Name)
                    self.assert_plain(name, node.value, True)
                    bound.append(node.targets[0].id)
                elif isinstance(node, ast.ImportFrom):
                    bound.extend(each.name for each in node.names)
                elif isinstance(node, (ast.FunctionDef, ast.ClassDef)):
                    bound.append(node.name)
                else:
                    self.bad(name, node, "module level")
            self.assertEqual(len(bound), len(set(bound)), name)

    def assert_plain(self, name, value, outermost):
        if isinstance(value, (ast.List, ast.Tuple, ast.Dict)):
            if not isinstance(value, ast.Tuple) and not outermost:
                self.bad(name, value, "list or dict within")
            inner = value.elts if not isinstance(value, ast.Dict) else value.keys + value.values
            for each in inner:
                self.assert_plain(name, each, False)
        elif not isinstance(value, (ast.Constant, ast.Name, ast.UnaryOp)):
            self.bad(name, value, "not plain")

    def test_names(self):
        for name, (_, tree) in self.files.items():
            outer = self.defined(tree)
            outer |= {a.name for n in tree.body if isinstance(n, ast.ImportFrom) for a in n.names}
            for node in ast.walk(tree):
                own = []
                if isinstance(node, ast.Name) and isinstance(node.ctx, (ast.Store, ast.Del)):
                    own = [node.id]
                elif isinstance(node, ast.arg):
                    own = [node.arg]
                elif isinstance(node, (ast.FunctionDef, ast.ClassDef)):
                    own = [node.name]
                elif isinstance(node, ast.Attribute):
                    self.assertNotIn(node.attr, NOWHERE, name)
                elif isinstance(node, ast.ExceptHandler) and node.name:
                    own = [node.name]
                for each in own:
                    if hasattr(builtins, each) and each not in DUNDERS:
                        self.bad(name, node, f"builtin {each}")
                    if each in NOWHERE | NOT_NAMES:
                        self.bad(name, node, each)
                    if each.startswith("__") and each not in DUNDERS:
                        self.bad(name, node, each)
                if isinstance(node, ast.ClassDef) and node.name.startswith("_"):
                    self.bad(name, node, "class name")
                if isinstance(node, ast.arg) and node.arg in outer:
                    self.bad(name, node, f"parameter {node.arg} is a name of the file")
                if isinstance(node, ast.Name) and node.id == "_" and isinstance(node.ctx, ast.Load):
                    self.bad(name, node, "_ is read")

    def test_locals_hide_nothing(self):
        for name, (_, tree) in self.files.items():
            outer = self.defined(tree)
            outer |= {a.name for n in tree.body if isinstance(n, ast.ImportFrom) for a in n.names}
            for function in functions(tree):
                for node in ast.walk(function):
                    if isinstance(node, ast.Name) and isinstance(node.ctx, ast.Store):
                        if node.id in outer:
                            self.bad(name, node, f"{node.id} hides a name of the file")

    def test_builtins(self):
        for name, (_, tree) in self.files.items():
            for node in ast.walk(tree):
                if isinstance(node, ast.Name) and hasattr(builtins, node.id):
                    if node.id not in BUILTINS:
                        self.bad(name, node, f"builtin {node.id}")

    def test_words(self):
        for name, (text, tree) in self.files.items():
            clean = ast.unparse(without_docstrings(ast.parse(text)))
            for word in WORDS:
                self.assertNotRegex(clean, rf"\b{word}\b", name)
            self.assertNotRegex(clean, "dataclass|overload|contextmanager")
            self.assertNotRegex(text, r"_wall|_WallAttr")
            for node in ast.walk(tree):
                if isinstance(node, ast.Constant) and isinstance(node.value, str):
                    self.assertNotIn("%", node.value, name)
                    self.assertFalse(re.fullmatch("__.*__", node.value), name)
                    self.assertFalse(node.value.endswith(("._", ".__")), name)
            self.assertNotRegex(text, r"\\[^nt\\'\"]", name)

    def test_statements(self):
        barred = (ast.Global, ast.AsyncFunctionDef, ast.AsyncFor, ast.AsyncWith, ast.Await,
                  ast.FormattedValue, ast.Div, ast.SetComp, ast.NamedExpr, ast.Set, ast.Match,
                  ast.AnnAssign, ast.Bytes)
        for name, (_, tree) in self.files.items():
            for node in ast.walk(tree):
                if isinstance(node, barred) and not isinstance(node, ast.FormattedValue):
                    self.bad(name, node, type(node).__name__)
                if isinstance(node, ast.Constant) and isinstance(node.value, (float, complex)):
                    self.bad(name, node, "float")
                if isinstance(node, ast.Compare):
                    for op, right in zip(node.ops, node.comparators):
                        if isinstance(op, (ast.Is, ast.IsNot)):
                            self.assertIsInstance(right, ast.Constant)
                if isinstance(node, ast.ExceptHandler):
                    self.assertIsNotNone(node.type)
                if isinstance(node, ast.FunctionDef):
                    for each in node.decorator_list:
                        text = ast.unparse(each)
                        good = text in ("property", "staticmethod", "classmethod")
                        self.assertTrue(good or text.endswith(".setter"), name)

    def test_sets(self):
        for name, (_, tree) in self.files.items():
            above = parents(tree)
            for node in ast.walk(tree):
                if isinstance(node, ast.Call) and isinstance(node.func, ast.Name):
                    if node.func.id != "set":
                        continue
                    outer = above[node]
                    good = isinstance(outer, ast.Compare) or (
                        isinstance(outer, ast.Call) and not outer.keywords
                        and getattr(outer.func, "id", "") in ("sorted", "len"))
                    if not good:
                        self.bad(name, node, "stored set")

    def test_views(self):
        for name, (_, tree) in self.files.items():
            above = parents(tree)
            for node in ast.walk(tree):
                if not isinstance(node, ast.Call):
                    continue
                view = getattr(node.func, "id", "") in VIEWS or (
                    getattr(node.func, "attr", "") in ("items", "keys", "values"))
                if not view:
                    continue
                outer = above[node]
                good = isinstance(outer, (ast.For, ast.comprehension)) and outer.iter is node
                if isinstance(outer, ast.Call):
                    word = getattr(outer.func, "id", "")
                    good = good or (word in TAKERS and outer.args[0] is node)
                    good = good or (word == "reversed" and node.func.id == "range")
                    good = good or (word == "zip")
                if not good:
                    self.bad(name, node, "view is not iterated at once")

    def test_methods(self):
        own, attributes = set(), set()
        for _, tree in self.files.values():
            for node in ast.walk(tree):
                if isinstance(node, ast.ClassDef):
                    own |= {n.name for n in node.body if isinstance(n, ast.FunctionDef)}
                if isinstance(node, ast.Attribute) and isinstance(node.ctx, ast.Store):
                    attributes.add(node.attr)
        self.assertFalse(attributes & NO_ATTRIBUTES)
        properties = {"entries", "state", "steps", "total", "cells"}
        self.assertFalse(own & attributes)
        for name, (_, tree) in self.files.items():
            above = parents(tree)
            for node in ast.walk(tree):
                if not isinstance(node, ast.Attribute) or isinstance(node.ctx, ast.Store):
                    continue
                outer = above[node]
                if isinstance(outer, ast.Call) and outer.func is node:
                    if node.attr not in METHODS | own | DUNDERS:
                        self.bad(name, node, f"method {node.attr}")
                elif node.attr not in attributes | properties | {"setter"}:
                    self.bad(name, node, f"attribute {node.attr}")

    def test_generators(self):
        makers, others = set(), set()
        for name, (_, tree) in self.files.items():
            for function in functions(tree):
                (makers if is_generator(function) else others).add(function.name)
        self.assertEqual(makers, {"ticks"})
        self.assertFalse(makers & others)

    def test_calls(self):
        for name, (_, tree) in self.files.items():
            for node in ast.walk(tree):
                if isinstance(node, ast.Call):
                    if isinstance(node.func, (ast.Subscript, ast.Call)):
                        self.bad(name, node, "a call of an item or of a result")
                    if isinstance(node.func, ast.Attribute) and node.func.attr == "join":
                        self.assertIsInstance(node.func.value, ast.Constant)


if __name__ == "__main__":
    unittest.main()
