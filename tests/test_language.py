"""The package keeps to the small part of Python that it is written in: what of it can be seen in the written code."""

import ast
import builtins
import os
import re
import unittest

PACKAGE = os.path.join(os.path.dirname(os.path.dirname(os.path.abspath(__file__))), "primetree")

OWN_NAMES = set("""len range enumerate zip min max sum abs sorted reversed int str bool list tuple dict set frozenset
isinstance ord repr any all divmod Exception ValueError TypeError KeyError IndexError LookupError ZeroDivisionError
ArithmeticError OverflowError RuntimeError NotImplementedError AttributeError StopIteration""".split())
OWN_METHODS = set("""append clear copy count endswith extend find get index insert isalnum isalpha isdigit islower
isspace isupper items join keys ljust lower lstrip partition pop remove replace reverse rfind rjust rpartition rsplit
rstrip setdefault split splitlines startswith strip update upper values zfill bit_length""".split())
WRITTEN_TWICE_UNDER = ("__init__", "__eq__", "__repr__", "__str__", "__len__")
NO_WORDS = re.compile(r"\b(type|typing|typing_extensions|enum|Enum|IntEnum|StrEnum|Flag|IntFlag|Generic|Protocol|ABC"
                      r"|ABCMeta|namedtuple|NamedTuple|TypedDict|TYPE_CHECKING|abstractmethod)\b"
                      r"|dataclass|overload|contextmanager")
NO_NODES = (ast.With, ast.Match, ast.Delete, ast.Global, ast.Nonlocal, ast.Assert, ast.Yield, ast.YieldFrom,
            ast.AsyncFunctionDef, ast.AsyncFor, ast.AsyncWith, ast.Await, ast.SetComp, ast.DictComp,
            ast.GeneratorExp, ast.NamedExpr, ast.Starred, ast.Div, ast.MatMult, ast.Import)


def read_package():
    texts = {}
    for name in sorted(os.listdir(PACKAGE)):
        if name != "__pycache__":
            with open(os.path.join(PACKAGE, name), encoding="utf-8", newline="") as file:
                texts[name] = file.read()
    return texts


def bound_at_top(tree):
    bound = set()
    for node in tree.body:
        if isinstance(node, (ast.FunctionDef, ast.ClassDef)):
            bound.add(node.name)
        if isinstance(node, ast.Assign):
            bound.update(target.id for target in node.targets)
    return bound


def names_bound(tree):
    for node in ast.walk(tree):
        if isinstance(node, (ast.FunctionDef, ast.ClassDef)):
            yield node.name
        if isinstance(node, ast.arg):
            yield node.arg
        if isinstance(node, ast.Name) and isinstance(node.ctx, ast.Store):
            yield node.id


def called(node):
    return getattr(node.func, "id", getattr(node.func, "attr", None))


def is_plain(node, above, at_top):
    """A whole number, a text and their like, or a list, tuple or dict of these and of functions defined above."""
    if isinstance(node, ast.Constant):
        return True
    if isinstance(node, ast.Name):
        return node.id in above
    if isinstance(node, ast.Tuple) or at_top and isinstance(node, ast.List):
        return all(is_plain(inner, above, False) for inner in node.elts)
    return at_top and isinstance(node, ast.Dict) and all(is_plain(inner, above, False)
                                                         for inner in node.keys + node.values)


class TestLanguage(unittest.TestCase):
    def setUp(self):
        self.texts = read_package()
        self.trees = {name: ast.parse(text) for name, text in self.texts.items()}

    def each_node(self, kind):
        for name, tree in self.trees.items():
            for node in ast.walk(tree):
                if isinstance(node, kind):
                    yield f"{name}:{getattr(node, 'lineno', '')}", node

    def test_files(self):
        self.assertIn("__init__.py", self.texts)
        for name, text in self.texts.items():
            self.assertRegex(name, r"\A[a-z0-9_]+\.py\Z")
            self.assertRegex(text, r"\A[ -~\n]*\Z", name)
            self.assertIsNone(NO_WORDS.search(text), name)

    def test_size(self):
        for name, text in self.texts.items():
            self.assertLessEqual(len(text.split("\n")), 401, name)
            self.assertLessEqual(max(len(row) for row in text.split("\n")), 120, name)
        for place, node in self.each_node(ast.FunctionDef):
            self.assertLessEqual(node.end_lineno - node.lineno + 1, 40, place)

    def test_the_top_of_a_module(self):
        for name, tree in self.trees.items():
            for node in tree.body:
                self.assertIsInstance(node, (ast.Expr, ast.ImportFrom, ast.FunctionDef, ast.ClassDef, ast.Assign), name)
            bound = [node.name for node in tree.body if isinstance(node, (ast.FunctionDef, ast.ClassDef))]
            self.assertEqual(len(bound), len(set(bound)), name)

    def test_plain_values_at_the_top(self):
        for name, tree in self.trees.items():
            above = set()
            for node in tree.body:
                if isinstance(node, ast.FunctionDef):
                    above.add(node.name)
                if isinstance(node, ast.Assign):
                    self.assertTrue(is_plain(node.value, above, True), f"{name}:{node.lineno}")

    def test_what_stands_at_the_top_is_not_changed(self):
        changing = ("append", "clear", "extend", "insert", "pop", "remove", "reverse", "setdefault", "update")
        for name, tree in self.trees.items():
            kept = {node.targets[0].id for node in tree.body if isinstance(node, ast.Assign)}
            for node in ast.walk(tree):
                if isinstance(node, ast.Attribute) and node.attr in changing:
                    self.assertNotIn(getattr(node.value, "id", None), kept, f"{name}:{node.lineno}")
                if isinstance(node, ast.Subscript) and isinstance(node.ctx, ast.Store):
                    self.assertNotIn(getattr(node.value, "id", None), kept, f"{name}:{node.lineno}")

    def test_imports_are_from_the_defining_file(self):
        for place, node in self.each_node(ast.ImportFrom):
            if node.module == "__future__":
                continue
            self.assertEqual(node.level, 0, place)
            self.assertRegex(node.module, r"\Aprimetree\.[a-z0-9_]+\Z", place)
            defined = bound_at_top(self.trees[node.module.split(".")[1] + ".py"])
            for alias in node.names:
                self.assertIn(alias.name, defined, place)

    def test_no_two_files_draw_from_one_another(self):
        draws = {name: set() for name in self.trees}
        for place, node in self.each_node(ast.ImportFrom):
            if node.module != "__future__":
                draws[place.split(":")[0]].update((node.module.split(".")[1] + ".py", "__init__.py"))
        while draws:
            free = [name for name in draws if not draws[name] & set(draws)]
            self.assertTrue(free, draws)
            for name in free:
                draws.pop(name)

    def test_no_form_outside_the_rules(self):
        for place, node in self.each_node(NO_NODES):
            self.fail(f"{place} {node}")
        for place, node in self.each_node(ast.Constant):
            self.assertNotIsInstance(node.value, (float, complex, bytes), place)
        for place, node in self.each_node((ast.For, ast.While)):
            self.assertEqual(node.orelse, [], place)
        for place, node in self.each_node(ast.Try):
            self.assertEqual(node.finalbody, [], place)
        for place, node in self.each_node(ast.Assign):
            self.assertEqual(len(node.targets), 1, place)

    def test_functions_and_classes_are_plain(self):
        for place, node in self.each_node(ast.FunctionDef):
            handed = node.args
            self.assertFalse(node.decorator_list or handed.vararg or handed.kwarg or handed.kwonlyargs, place)
            self.assertFalse(handed.posonlyargs, place)
        for place, node in self.each_node(ast.ClassDef):
            self.assertFalse(node.decorator_list or node.keywords or len(node.bases) > 1, place)
            for inner in node.body:
                self.assertIsInstance(inner, (ast.FunctionDef, ast.Pass, ast.Expr), place)

    def test_names(self):
        for name, tree in self.trees.items():
            for bound in names_bound(tree):
                if bound not in WRITTEN_TWICE_UNDER:
                    self.assertFalse(bound.startswith("_"), (name, bound))
                    self.assertNotIn(bound, dir(builtins), name)
        for place, node in self.each_node(ast.Name):
            self.assertTrue(node.id in OWN_NAMES or node.id not in dir(builtins), (place, node.id))

    def test_no_local_is_called_like_an_import_or_a_class(self):
        for name, tree in self.trees.items():
            taken = {alias.name for node in tree.body if isinstance(node, ast.ImportFrom) for alias in node.names}
            taken.update(node.name for node in tree.body if isinstance(node, ast.ClassDef))
            for node in ast.walk(tree):
                if isinstance(node, ast.FunctionDef):
                    self.assertFalse(taken & set(names_bound(node)), (name, node.name))

    def test_walked_at_once(self):
        walks = ("zip", "enumerate", "reversed", "range", "items", "keys", "values")
        walkers = ("list", "tuple", "dict", "sorted", "sum", "any", "all", "enumerate", "zip", "min", "max", "join")
        for name, tree in self.trees.items():
            walked = set()
            for node in ast.walk(tree):
                if isinstance(node, (ast.For, ast.comprehension)):
                    walked.add(node.iter)
                if isinstance(node, ast.Call) and node.args and called(node) in walkers:
                    walked.add(node.args[0])
            for node in ast.walk(tree):
                if isinstance(node, ast.Call) and called(node) in walks:
                    self.assertIn(node, walked, f"{name}:{node.lineno}")

    def test_methods(self):
        own = set()
        for place, node in self.each_node(ast.ClassDef):
            own.update(inner.name for inner in node.body if isinstance(inner, ast.FunctionDef))
        for place, node in self.each_node(ast.Call):
            if isinstance(node.func, ast.Attribute):
                self.assertIn(node.func.attr, OWN_METHODS | own, place)

    def test_no_name_is_a_method_here_and_a_value_there(self):
        methods = set()
        for place, node in self.each_node(ast.ClassDef):
            names = [inner.name for inner in node.body if isinstance(inner, ast.FunctionDef)]
            self.assertEqual(len(names), len(set(names)), place)
            methods.update(names)
        for place, node in self.each_node(ast.Attribute):
            if isinstance(node.ctx, ast.Store):
                self.assertNotIn(node.attr, methods, place)

    def test_what_only_asks_stores_nothing(self):
        for place, node in self.each_node(ast.FunctionDef):
            stored = [inner for inner in ast.walk(node)
                      if isinstance(inner, ast.Attribute) and isinstance(inner.ctx, ast.Store)]
            if node.name in ("__eq__", "__repr__", "__str__", "__len__"):
                self.assertEqual(stored, [], place)

    def test_is_and_powers(self):
        for place, node in self.each_node(ast.Compare):
            for sign, right in zip(node.ops, node.comparators):
                if isinstance(sign, (ast.Is, ast.IsNot)):
                    self.assertTrue(isinstance(right, ast.Constant) and right.value in (None, True, False), place)
        for place, node in self.each_node((ast.BinOp, ast.AugAssign)):
            if isinstance(node.op, ast.Pow):
                exponent = node.right if isinstance(node, ast.BinOp) else node.value
                self.assertIn(getattr(exponent, "value", None), range(65), place)


if __name__ == "__main__":
    unittest.main()
