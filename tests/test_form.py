"""The form of the code of the package: the rules L1 to L28 as far as they can be seen, some of them narrower."""

import ast
import builtins
import functools
import os
import re
import unittest
import warnings

FOLDER = os.path.join(os.path.dirname(os.path.dirname(os.path.abspath(__file__))), "gathermill")
LIBRARY = {"heapq": {"heappush", "heappop"}, "math": {"gcd"}}
BUILTINS = set(
    "len range enumerate zip min max sum abs sorted reversed int str bool list tuple dict set isinstance ord repr any "
    "all divmod Exception ValueError TypeError KeyError IndexError LookupError ZeroDivisionError".split())
METHODS = set(
    "append clear copy count endswith extend find get index insert isalnum isalpha isdigit islower isspace isupper "
    "items join keys ljust lower lstrip partition pop remove replace reverse rfind rjust rpartition rsplit rstrip "
    "setdefault split splitlines startswith strip update upper values zfill bit_length __init__ add discard".split())
NO_NAMES = set(
    "register mro elements open input law version_info with_traceback add_note attrgetter breakpoint builtins compile "
    "copyright credits delattr dir eval exec exit gc getattr globals hasattr help id importlib license locals "
    "methodcaller os quit setattr super type vars sys __name__ map iter".split())
NO_ATTRIBUTES = set(
    "items keys values pop update append clear extend insert remove reverse setdefault sort args encode decode hex "
    "fromhex format register mro elements open input law".split())
NO_WORDS = set(
    "type typing typing_extensions enum Enum IntEnum StrEnum Flag IntFlag Generic Protocol ABC ABCMeta namedtuple "
    "NamedTuple TypedDict TYPE_CHECKING abstractmethod".split())
NO_STATEMENTS = (
    ast.Global, ast.AsyncFunctionDef, ast.AsyncFor, ast.AsyncWith, ast.Await, ast.GeneratorExp, ast.Yield,
    ast.YieldFrom, ast.Import, ast.AnnAssign, ast.Match, ast.With, ast.Delete, ast.NamedExpr, ast.Set, ast.SetComp,
)
ON_THE_SPOT = ("list", "tuple", "dict", "sorted", "sum", "any", "all", "enumerate", "zip", "min", "max")
ITERATED = ("range", "zip", "enumerate", "reversed")
VIEWS = ("items", "keys", "values")


def sources():
    """The pairs (name, text) of the files of the package."""
    found = []
    for name in sorted(os.listdir(FOLDER)):
        if name != "__pycache__":
            with open(os.path.join(FOLDER, name), encoding="utf-8", newline="") as source:
                found.append((name, source.read()))
    return found


@functools.lru_cache
def parsed():
    """The pairs (name, syntax tree) of the files; each node knows the one around it as its attribute above."""
    found = []
    for name, text in sources():
        root = ast.parse(text)
        for node in ast.walk(root):
            for inner in ast.iter_child_nodes(node):
                inner.above = node
        found.append((name, root))
    return found


def bound_names(root):
    """The pairs (node, name) of all that a file gives a name to."""
    for node in ast.walk(root):
        if isinstance(node, (ast.FunctionDef, ast.ClassDef)):
            yield node, node.name
        elif isinstance(node, ast.arg):
            yield node, node.arg
        elif isinstance(node, ast.Name) and isinstance(node.ctx, ast.Store):
            yield node, node.id
        elif isinstance(node, ast.alias):
            yield node, node.asname or node.name
        elif isinstance(node, ast.ExceptHandler) and node.name:
            yield node, node.name


class FormTest(unittest.TestCase):
    def each_node(self, *kinds):
        for name, root in parsed():
            for node in ast.walk(root):
                if isinstance(node, kinds):
                    yield f"{name}:{getattr(node, 'lineno', 0)}", node

    def test_files(self):
        self.assertIn("__init__.py", [name for name, _ in sources()])
        for name, text in sources():
            self.assertRegex(name, r"^[a-z_0-9]+\.py$")
            self.assertLessEqual(text.count("\n"), 399, name)
            self.assertEqual([own for own in text if own != "\n" and not " " <= own <= "~"], [], name)
            self.assertLessEqual(max(map(len, text.split("\n"))), 120, name)
            with warnings.catch_warnings():
                warnings.simplefilter("error")
                compile(text, name, "exec")

    def test_words(self):
        for name, text in sources():
            for word in ("dataclass", "overload", "contextmanager", "_wall"):
                self.assertNotIn(word, text, name)
        for where, node in self.each_node(ast.Constant):
            if isinstance(node.value, str) and not isinstance(node.above, ast.Expr):
                self.assertFalse(NO_WORDS & set(re.findall(r"[A-Za-z_0-9]+", node.value)), where)
                self.assertNotIn(chr(37), node.value, where)
                self.assertNotIn("__", node.value, where)
            self.assertNotIsInstance(node.value, (float, complex, bytes), where)

    def test_sizes_of_functions(self):
        for where, node in self.each_node(ast.FunctionDef):
            self.assertLessEqual(node.end_lineno - node.lineno + 1, 40, where)
            self.assertEqual(node.decorator_list, [], where)
            self.assertIsNotNone(ast.get_docstring(node) or node.name == "__init__" or None, where)

    def test_imports(self):
        leads = {}
        for name, root in parsed():
            defined = {other[:-3]: {own.name for own in tree.body if hasattr(own, "name")} | {
                own.targets[0].id for own in tree.body if isinstance(own, ast.Assign)} for other, tree in parsed()}
            leads[name[:-3]] = []
            for node in ast.walk(root):
                if isinstance(node, ast.ImportFrom):
                    self.assertEqual(node.level, 0, name)
                    for own in node.names:
                        self.assertIsNone(own.asname, name)
                        if node.module in LIBRARY:
                            self.assertIn(own.name, LIBRARY[node.module], name)
                        else:
                            self.assertTrue(node.module.startswith("gathermill."), name)
                            self.assertIn(own.name, defined[node.module[11:]], name)
                            leads[name[:-3]].append(node.module[11:])
        done = set()
        while len(done) < len(leads):
            more = {name for name in leads if name not in done and done.issuperset(leads[name])}
            self.assertTrue(more, "files import from each other")
            done |= more

    def test_imports_are_used(self):
        for name, root in parsed():
            used = {node.id for node in ast.walk(root) if isinstance(node, ast.Name)}
            for node in root.body:
                if isinstance(node, ast.ImportFrom):
                    self.assertEqual([own.name for own in node.names if own.name not in used], [], name)

    def test_module_level(self):
        for name, root in parsed():
            self.assertIsNotNone(ast.get_docstring(root), name)
            bound = [own.name for own in root.body if hasattr(own, "name")]
            for node in root.body[1:]:
                self.assertIsInstance(node, (ast.ImportFrom, ast.FunctionDef, ast.ClassDef, ast.Assign), name)
                if isinstance(node, ast.Assign):
                    bound.append(node.targets[0].id)
                    for inner in ast.walk(node.value):
                        self.assertIsInstance(inner, (ast.Constant, ast.Tuple, ast.Dict, ast.Name, ast.UnaryOp,
                                                      ast.USub, ast.Load), f"{name} {node.lineno}")
                if isinstance(node, ast.ImportFrom):
                    bound.extend(own.name for own in node.names)
            self.assertEqual(len(bound), len(set(bound)), name)

    def test_statements(self):
        for where, node in self.each_node(*[own for own in NO_STATEMENTS if own is not ast.Delete], ast.Lambda):
            self.fail(f"{where} {type(node).__name__}")
        for where, node in self.each_node(ast.BinOp, ast.AugAssign):
            self.assertNotIsInstance(node.op, (ast.Div, ast.MatMult, ast.Pow), where)
        for where, node in self.each_node(ast.Compare):
            for op, right in zip(node.ops, node.comparators):
                if isinstance(op, (ast.Is, ast.IsNot)):
                    self.assertIsInstance(right, ast.Constant, where)
                    self.assertIn(right.value, (None, True, False), where)
        for where, node in self.each_node(ast.Delete):
            self.assertTrue(all(isinstance(own, ast.Subscript) for own in node.targets), where)

    def test_names(self):
        for name, root in parsed():
            outside = {own.name for node in root.body if isinstance(node, ast.ImportFrom) for own in node.names}
            outside |= {node.name for node in root.body if isinstance(node, ast.ClassDef)}
            for node, own in bound_names(root):
                where = f"{name} {own}"
                self.assertRegex(own, r"^(_|_?[A-Za-z][A-Za-z0-9_]*|__init__)$", where)
                self.assertNotIn(own, NO_NAMES, where)
                self.assertFalse(own in vars(builtins), where)
                if isinstance(node, (ast.arg, ast.Name)):
                    self.assertNotIn(own, outside, where)

    def test_builtins(self):
        for where, node in self.each_node(ast.Name):
            if isinstance(node.ctx, ast.Load) and node.id in vars(builtins):
                self.assertIn(node.id, BUILTINS, where)
                self.assertIsInstance(
                    node.above, (ast.Call, ast.ClassDef, ast.ExceptHandler, ast.Tuple, ast.Attribute, ast.Raise), where)
            self.assertFalse(node.id == "_" and isinstance(node.ctx, ast.Load), where)

    def test_attributes(self):
        for where, node in self.each_node(ast.Attribute):
            called = isinstance(node.above, ast.Call) and node.above.func is node
            if isinstance(node.ctx, ast.Store) or not called:
                self.assertNotIn(node.attr, NO_ATTRIBUTES, where)
                self.assertNotIn(node.attr, METHODS, where)

    def test_methods(self):
        own_methods = {own.name for _, node in self.each_node(ast.ClassDef) for own in node.body if hasattr(own, "name")}
        for where, node in self.each_node(ast.Call):
            if isinstance(node.func, ast.Attribute):
                self.assertIn(node.func.attr, METHODS | own_methods, where)
                if node.func.attr == "join":
                    self.assertIsInstance(node.func.value, ast.Constant, where)
            if isinstance(node.func, ast.Name) and node.func.id in BUILTINS:
                allowed = {"min": ("default",), "max": ("default",)}.get(node.func.id, ())
                self.assertTrue(all(own.arg in allowed for own in node.keywords), where)

    def test_iterated_at_once(self):
        for where, node in self.each_node(ast.Call):
            name = node.func.id if isinstance(node.func, ast.Name) else ""
            view = isinstance(node.func, ast.Attribute) and node.func.attr in VIEWS
            if name in ITERATED or view:
                above = node.above
                in_call = isinstance(above, ast.Call) and getattr(above.func, "id", "") in ON_THE_SPOT
                in_loop = isinstance(above, (ast.For, ast.comprehension)) and above.iter is node
                self.assertTrue(in_call or in_loop, where)

    def test_sets(self):
        for where, node in self.each_node(ast.Call):
            if getattr(node.func, "id", "") == "set":
                above = node.above
                self.assertTrue(isinstance(above, ast.Call) and above.func.id in ("len", "sorted"), where)

    def test_tables_are_only_read(self):
        tables = {own.targets[0].id for _, root in parsed() for own in root.body
                  if isinstance(own, ast.Assign) and isinstance(own.value, (ast.Dict, ast.List))}
        for where, node in self.each_node(ast.Name):
            if node.id in tables and isinstance(node.ctx, ast.Load):
                above = node.above
                fine = isinstance(above, ast.Compare) and node in above.comparators
                fine = fine or (isinstance(above, ast.Subscript) and isinstance(above.ctx, ast.Load))
                fine = fine or (isinstance(above, ast.Attribute) and above.attr == "get")
                self.assertTrue(fine, f"{where} {node.id}")

    def test_classes(self):
        for where, node in self.each_node(ast.ClassDef):
            methods = {own.name for own in node.body if isinstance(own, ast.FunctionDef)}
            stored = {own.attr for own in ast.walk(node) if isinstance(own, ast.Attribute)
                      and isinstance(own.ctx, ast.Store) and own.value.id == "self"}
            self.assertFalse(methods & stored, where)
            self.assertFalse([own for own in methods if own.startswith("__") and own != "__init__"], where)


if __name__ == "__main__":
    unittest.main()
