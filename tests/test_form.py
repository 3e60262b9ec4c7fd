"""The package's files: they import, print and read nothing, and keep to the small part of Python that is told."""

import ast
import re
import unittest
from pathlib import Path

PACKAGE = Path(__file__).resolve().parent.parent / "quizpackets"
FILES = sorted(PACKAGE.glob("*.py"))

STATEMENTS = (
    ast.FunctionDef, ast.ClassDef, ast.ImportFrom, ast.Assign, ast.AugAssign, ast.If, ast.While, ast.For, ast.Return,
    ast.Break, ast.Continue, ast.Pass, ast.Raise, ast.Try, ast.Expr)
NOT_EXPRESSIONS = (
    ast.SetComp, ast.DictComp, ast.GeneratorExp, ast.NamedExpr, ast.Starred, ast.Div, ast.Set, ast.Yield, ast.Await,
    ast.Is, ast.IsNot)
OWN_NAMES = (
    "len range enumerate zip min max sum abs sorted reversed int str bool list tuple dict set frozenset isinstance ord "
    "repr any all divmod").split()
METHODS = (
    "append clear copy count endswith extend find get index insert isalnum isalpha isdigit islower isspace isupper "
    "items join keys ljust lower lstrip partition pop remove replace reverse rfind rjust rpartition rsplit rstrip "
    "setdefault split splitlines startswith strip update upper values zfill bit_length").split()
WORDS = (
    "type typing typing_extensions enum Enum IntEnum StrEnum Flag IntFlag Generic Protocol ABC ABCMeta namedtuple "
    "NamedTuple TypedDict TYPE_CHECKING abstractmethod").split()


class Form(unittest.TestCase):
    def trees(self):
        return [(path.name, ast.parse(path.read_text(encoding="utf-8"))) for path in FILES]

    def test_the_files(self):
        self.assertIn("table.py", [path.name for path in FILES])
        self.assertIn("__init__.py", [path.name for path in FILES])
        others = [path.name for path in PACKAGE.iterdir() if path.suffix != ".py" and path.name != "__pycache__"]
        self.assertEqual(others, [])

    def test_sizes_and_signs(self):
        for path in FILES:
            text = path.read_text(encoding="utf-8")
            rows = text.split("\n")
            self.assertLessEqual(len(rows), 401, path.name)
            self.assertLessEqual(max(len(row) for row in rows), 120, path.name)
            self.assertEqual(re.findall(r"[^ -~\n]", text), [], path.name)
            self.assertEqual([word for word in re.findall(r"\w+", text) if word in WORDS], [], path.name)
            self.assertEqual(re.findall(r"dataclass|overload|contextmanager", text), [], path.name)

    def test_functions_are_short(self):
        for name, tree in self.trees():
            for node in ast.walk(tree):
                if isinstance(node, ast.FunctionDef):
                    self.assertLessEqual(node.end_lineno - node.lineno + 1, 40, f"{name} {node.name}")
                    self.assertEqual(node.decorator_list, [], f"{name} {node.name}")

    def test_imports_are_the_package_s_own(self):
        for name, tree in self.trees():
            for node in ast.walk(tree):
                self.assertNotIsInstance(node, ast.Import, name)
                if isinstance(node, ast.ImportFrom):
                    self.assertEqual(node.level, 0, name)
                    self.assertEqual(node.module.split(".")[0], "quizpackets", name)

    def test_statements_and_expressions(self):
        for name, tree in self.trees():
            for node in ast.walk(tree):
                where = f"{name}:{getattr(node, 'lineno', 0)}"
                if isinstance(node, ast.stmt):
                    self.assertIsInstance(node, STATEMENTS, where)
                self.assertNotIsInstance(node, NOT_EXPRESSIONS, where)
                if isinstance(node, (ast.For, ast.While)):
                    self.assertEqual(node.orelse, [], where)
                if isinstance(node, ast.Assign):
                    self.assertEqual(len(node.targets), 1, where)
                if isinstance(node, ast.ListComp):
                    self.assertEqual(len(node.generators), 1, where)
                    self.assertLessEqual(len(node.generators[0].ifs), 1, where)
                if isinstance(node, ast.Constant):
                    self.assertIsInstance(node.value, (int, str, type(None)), where)

    def bound_names(self, tree):
        names = set()
        for node in ast.walk(tree):
            if isinstance(node, (ast.FunctionDef, ast.ClassDef)):
                names.add(node.name)
            elif isinstance(node, ast.arg):
                names.add(node.arg)
            elif isinstance(node, ast.alias):
                names.add(node.asname or node.name)
            elif isinstance(node, ast.Name) and isinstance(node.ctx, ast.Store):
                names.add(node.id)
        return names

    def test_names(self):
        python_s_own = set(__builtins__ if isinstance(__builtins__, dict) else dir(__builtins__))
        for name, tree in self.trees():
            bound = self.bound_names(tree)
            self.assertEqual([one for one in bound if one.startswith("_") and one != "__init__"], [], name)
            self.assertEqual(bound & python_s_own, set(), name)
            read = {node.id for node in ast.walk(tree) if isinstance(node, ast.Name)}
            self.assertEqual(read - bound - set(OWN_NAMES), set(), name)

    def drawn(self, tree):
        return [(node.module.split(".")[-1], alias.name) for node in tree.body if isinstance(node, ast.ImportFrom)
                for alias in node.names]

    def test_names_are_drawn_from_where_they_are_defined(self):
        trees = {name[:-3]: tree for name, tree in self.trees()}
        for name, tree in trees.items():
            for module, drawn in self.drawn(tree):
                self.assertNotIn(drawn, [other for from_where, other in self.drawn(trees[module])], name)
                self.assertIn(drawn, self.bound_names(trees[module]), name)

    def test_no_two_files_draw_from_one_another(self):
        left = {name[:-3]: {module for module, drawn in self.drawn(tree)} for name, tree in self.trees()}
        while left:
            free = [name for name in left if not left[name] & set(left)]
            self.assertNotEqual(free, [], left)
            left = {name: left[name] for name in left if name not in free}

    def test_locals_are_not_called_like_imports_or_classes(self):
        for name, tree in self.trees():
            taken = {drawn for module, drawn in self.drawn(tree)}
            taken |= {node.name for node in tree.body if isinstance(node, ast.ClassDef)}
            for function in [node for node in ast.walk(tree) if isinstance(node, ast.FunctionDef)]:
                bound = self.bound_names(function) - {function.name}
                self.assertEqual(taken & bound, set(), f"{name} {function.name}")

    def test_no_name_is_a_method_and_a_value(self):
        methods = set()
        given = set()
        for name, tree in self.trees():
            for kind in [node for node in tree.body if isinstance(node, ast.ClassDef)]:
                methods |= {node.name for node in kind.body if isinstance(node, ast.FunctionDef)}
            given |= {node.attr for node in ast.walk(tree)
                      if isinstance(node, ast.Attribute) and isinstance(node.ctx, ast.Store)}
        self.assertEqual(methods & given, set())
        self.assertEqual(given & {attr for kind in (str, int, list, dict, set, bytes) for attr in vars(kind)}, set())

    def test_methods(self):
        own = set()
        for name, tree in self.trees():
            own |= {node.name for node in ast.walk(tree) if isinstance(node, ast.FunctionDef)}
        for name, tree in self.trees():
            for node in ast.walk(tree):
                if isinstance(node, ast.Call) and isinstance(node.func, ast.Attribute):
                    self.assertIn(node.func.attr, own | set(METHODS), f"{name}:{node.lineno}")


if __name__ == "__main__":
    unittest.main()
