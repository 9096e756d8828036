"""The files of the package keep to the rules of the language that a short test can see."""

import ast
import builtins
import os
import unittest

TOP = os.path.join(os.path.dirname(os.path.abspath(__file__)), "..")
PACKAGE = os.path.join(TOP, "dividedseats")
LIBRARY = {
    "math": {"gcd", "lcm", "isqrt", "comb", "perm", "factorial"},
    "itertools": {"product", "combinations", "permutations"},
}
BUILTINS = set(
    "len range enumerate zip min max sum abs sorted reversed int str bool list tuple dict set"
    " isinstance ord repr any all divmod ValueError".split()
)
# Examples that are run leave a value called _ among the builtins, and classes have an __init__.
TAKEN = set(dir(builtins)) - {"_", "__init__"}
ARCHIVE = {"act", "results", "method"}
METHODS = set(
    "append clear copy count extend get index insert items join keys pop remove values".split()
)
TAKES_GENERATORS = set("list tuple dict sorted sum min max any all".split())
# What may only be iterated where it stands, and who may do that besides loops.
AT_ONCE = {"range", "zip", "enumerate", "reversed", "permutations"}
ITERATES = TAKES_GENERATORS | {"enumerate", "zip", "permutations", "len", "reversed"}
NO_NODES = (
    ast.Lambda,
    ast.Global,
    ast.Nonlocal,
    ast.AsyncFunctionDef,
    ast.Await,
    ast.Yield,
    ast.YieldFrom,
    ast.Set,
    ast.SetComp,
    ast.Div,
    ast.Import,
    ast.JoinedStr,
    ast.Delete,
    ast.With,
)
NO_WORDS = set("type typing enum register mro elements open input law".split())


def package_files():
    names = [name for name in os.listdir(PACKAGE) if name != "__pycache__"]
    return [os.path.join(PACKAGE, name) for name in sorted(names)]


def text_of(path):
    with open(path, "rb") as file:
        return file.read().decode("ascii")


def trees():
    return [(path, ast.parse(text_of(path))) for path in package_files()]


def bound_names(node):
    """The names that a file, a class or a function binds, at any depth."""
    found = []
    for item in ast.walk(node):
        if isinstance(item, ast.Name) and isinstance(item.ctx, ast.Store):
            found.append(item.id)
        elif isinstance(item, ast.arg):
            found.append(item.arg)
        elif isinstance(item, (ast.FunctionDef, ast.ClassDef)):
            found.append(item.name)
    return found


def imported_names(tree):
    return [
        alias.name
        for item in ast.walk(tree)
        if isinstance(item, ast.ImportFrom)
        for alias in item.names
    ]


def is_plain(node):
    """Whether it is a literal without lists and dicts."""
    if isinstance(node, ast.Tuple):
        return all(is_plain(item) for item in node.elts)
    return isinstance(node, ast.Constant)


def is_table(node):
    """Whether it is a literal dict, of which all values are plain."""
    if not isinstance(node, ast.Dict):
        return False
    return all(is_plain(item) for item in node.keys + node.values)


class LanguageTest(unittest.TestCase):
    def test_files(self):
        for path in package_files():
            self.assertRegex(os.path.basename(path), "^[a-z_]+[.]py$")
        self.assertIn("__init__.py", [os.path.basename(path) for path in package_files()])

    def test_size_and_characters(self):
        for path in package_files():
            lines = text_of(path).split("\n")
            self.assertLessEqual(len(lines), 400, path)
            for line in lines:
                self.assertLessEqual(len(line), 120, path)
                self.assertTrue(line.isprintable(), path)

    def test_functions_are_short(self):
        for path, tree in trees():
            for node in ast.walk(tree):
                if isinstance(node, ast.FunctionDef):
                    self.assertLessEqual(node.end_lineno - node.lineno + 1, 40, node.name)
                    self.assertEqual(node.decorator_list, [], node.name)

    def test_module_level(self):
        for path, tree in trees():
            for node in tree.body:
                plain = isinstance(node, (ast.ImportFrom, ast.FunctionDef, ast.ClassDef))
                if isinstance(node, ast.Assign):
                    plain = is_plain(node.value) or is_table(node.value)
                    self.assertEqual(len(node.targets), 1, (path, node.lineno))
                elif isinstance(node, ast.Expr):
                    plain = isinstance(node.value, ast.Constant)
                self.assertTrue(plain, (path, node.lineno))

    def test_no_other_parts_of_the_language(self):
        for path, tree in trees():
            for node in ast.walk(tree):
                self.assertNotIsInstance(node, NO_NODES, path)
                if isinstance(node, ast.Constant):
                    self.assertNotIsInstance(node.value, (float, complex, bytes), path)

    def test_only_own_errors_are_caught(self):
        own = {node.name for path, tree in trees() if path.endswith("errors.py") for node in tree.body
               if isinstance(node, ast.ClassDef)}
        for path, tree in trees():
            for node in ast.walk(tree):
                if isinstance(node, ast.Try):
                    self.assertEqual(node.finalbody, [], path)
                    for handler in node.handlers:
                        self.assertIn(handler.type.id, own, path)
                if isinstance(node, ast.Raise):
                    self.assertIn(node.exc.func.id, own, path)

    def test_tables_are_only_read(self):
        # A dict at module level is neither changed nor passed on.
        for path, tree in trees():
            tables = {
                node.targets[0].id
                for node in tree.body
                if isinstance(node, ast.Assign) and isinstance(node.value, ast.Dict)
            }
            read = [node for node in ast.walk(tree) if isinstance(node, ast.Subscript)]
            allowed = {node.value for node in read if isinstance(node.ctx, ast.Load)}
            for node in ast.walk(tree):
                if isinstance(node, ast.Name) and node.id in tables:
                    if isinstance(node.ctx, ast.Load):
                        self.assertIn(node, allowed, (path, node.lineno))

    def test_builtins_and_methods(self):
        for path, tree in trees():
            for node in ast.walk(tree):
                if isinstance(node, ast.Name) and node.id in TAKEN:
                    self.assertIn(node.id, BUILTINS, path)
                if isinstance(node, ast.Call) and isinstance(node.func, ast.Attribute):
                    own = isinstance(node.func.value, ast.Name) and node.func.value.id in ("self", "archive")
                    self.assertIn(node.func.attr, ARCHIVE if own else METHODS, path)

    def test_names(self):
        for path, tree in trees():
            bound = bound_names(tree)
            imported = imported_names(tree)
            top = [node.name for node in tree.body if hasattr(node, "name")] + imported
            self.assertEqual(len(top), len(set(top)), path)
            self.assertEqual(set(bound) & set(imported), set(), path)
            for name in bound:
                self.assertNotIn(name, TAKEN, path)
                self.assertNotIn(name, NO_WORDS, path)

    def test_iterated_at_once(self):
        for path, tree in trees():
            allowed = set()
            for node in ast.walk(tree):
                if isinstance(node, (ast.For, ast.comprehension)):
                    allowed.add(node.iter)
                elif isinstance(node, ast.Call) and isinstance(node.func, ast.Name):
                    if node.func.id in ITERATES:
                        allowed.update(node.args)
            for node in ast.walk(tree):
                called = isinstance(node, ast.Call) and isinstance(node.func, ast.Name)
                if called and node.func.id in AT_ONCE:
                    self.assertIn(node, allowed, (path, node.lineno))
                if called:
                    for item in node.args:
                        if isinstance(item, ast.GeneratorExp):
                            self.assertIn(node.func.id, TAKES_GENERATORS, (path, node.lineno))

    def test_imports(self):
        for path, tree in trees():
            for node in ast.walk(tree):
                if isinstance(node, ast.ImportFrom):
                    self.assert_known(node)

    def assert_known(self, node):
        self.assertEqual(node.level, 0)
        self.assertTrue(all(alias.asname is None for alias in node.names))
        if not node.module.startswith("dividedseats."):
            self.assertLessEqual({alias.name for alias in node.names}, LIBRARY[node.module])
            return
        path = os.path.join(PACKAGE, node.module.split(".")[1] + ".py")
        defined = set()
        for other in ast.parse(text_of(path)).body:
            if isinstance(other, (ast.FunctionDef, ast.ClassDef)):
                defined.add(other.name)
            elif isinstance(other, ast.Assign):
                defined.update(target.id for target in other.targets)
        self.assertLessEqual({alias.name for alias in node.names}, defined)

    def test_imports_are_used(self):
        for path, tree in trees():
            read = {node.id for node in ast.walk(tree) if isinstance(node, ast.Name)}
            self.assertLessEqual(set(imported_names(tree)), read, path)

    def test_no_two_files_import_each_other(self):
        above = {}
        for path, tree in trees():
            own = "dividedseats." + os.path.basename(path)[:-3]
            nodes = [node for node in tree.body if isinstance(node, ast.ImportFrom)]
            above[own] = {node.module for node in nodes}
        while above:
            free = [name for name, needed in above.items() if not needed & set(above)]
            self.assertTrue(free, above)
            for name in free:
                del above[name]


if __name__ == "__main__":
    unittest.main()
