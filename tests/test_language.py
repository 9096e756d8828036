"""The files of the package keep to the rules of the language that a short test can see."""

import ast
import os
import unittest

TOP = os.path.join(os.path.dirname(os.path.abspath(__file__)), "..")
PACKAGE = os.path.join(TOP, "dividedseats")
LIBRARY = {
    "heapq": {"heappush", "heappop", "heapify", "heapreplace", "heappushpop"},
    "math": {"gcd", "lcm", "isqrt", "comb", "perm", "factorial"},
    "itertools": {"product", "combinations", "permutations", "chain", "accumulate", "pairwise"},
    "collections": {"defaultdict", "deque"},
}


def package_files():
    names = [name for name in os.listdir(PACKAGE) if name != "__pycache__"]
    return [os.path.join(PACKAGE, name) for name in sorted(names)]


def text_of(path):
    with open(path, "rb") as file:
        return file.read().decode("ascii")


class LanguageTest(unittest.TestCase):
    def test_files(self):
        for path in package_files():
            self.assertRegex(os.path.basename(path), "^[a-z_]+[.]py$")
        self.assertIn("__init__.py", [os.path.basename(path) for path in package_files()])

    def test_size_and_characters(self):
        for path in package_files():
            lines = text_of(path).split("\n")
            self.assertLessEqual(len(lines), 400, path)
            for line in lines:
                self.assertLessEqual(len(line), 120, path)
                self.assertTrue(line.isprintable(), path)

    def test_functions_are_short(self):
        for path in package_files():
            for node in ast.walk(ast.parse(text_of(path))):
                if isinstance(node, ast.FunctionDef):
                    self.assertLessEqual(node.end_lineno - node.lineno + 1, 40, node.name)

    def test_imports(self):
        for path in package_files():
            for node in ast.walk(ast.parse(text_of(path))):
                self.assertNotIsInstance(node, ast.Import, path)
                if isinstance(node, ast.ImportFrom):
                    self.assert_known(node)

    def assert_known(self, node):
        self.assertEqual(node.level, 0)
        self.assertTrue(all(alias.asname is None for alias in node.names))
        if not node.module.startswith("dividedseats."):
            self.assertLessEqual({alias.name for alias in node.names}, LIBRARY[node.module])
            return
        path = os.path.join(PACKAGE, node.module.split(".")[1] + ".py")
        defined = set()
        for other in ast.parse(text_of(path)).body:
            if isinstance(other, (ast.FunctionDef, ast.ClassDef)):
                defined.add(other.name)
            elif isinstance(other, ast.Assign):
                defined.update(target.id for target in other.targets)
        self.assertLessEqual({alias.name for alias in node.names}, defined)


if __name__ == "__main__":
    unittest.main()
