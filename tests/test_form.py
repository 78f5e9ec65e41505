"""The form of the package: what shared/LANGUAGE.md asks of files, imports, names and sizes."""

import ast
import unittest
from pathlib import Path

PACKAGE = Path(__file__).resolve().parent.parent / "fewcarry"
FILES = sorted(PACKAGE.rglob("*.py"))
LIBRARY = {
    "heapq": {"heappush", "heappop", "heapify", "heapreplace", "heappushpop"},
    "math": {"gcd", "lcm", "isqrt", "comb", "perm", "factorial"},
    "itertools": {"product", "combinations", "permutations", "chain", "accumulate", "pairwise", "islice", "zip_longest"},
    "collections": {"defaultdict", "deque"},
    "__future__": {"annotations"},
}
INTERFACE = {
    "exact/errors.py": ["CarryError"],
    "exact/ratio.py": ["Ratio"],
    "exact/simplest.py": ["simplest"],
    "exact/span.py": ["Span"],
    "grids/grid.py": ["Grid"],
    "grids/solving.py": ["determinant", "inverse", "solution", "independent_columns", "rank", "mixture"],
    "grids/updates.py": ["update_factor", "updated_inverse"],
}
METHODS = {
    "exact/ratio.py": "__init__ read __add__ __sub__ __mul__ __pow__ __neg__ __abs__ __eq__ divided raised compare "
                      "sign rounded_down rounded_up text",
    "exact/span.py": "__init__ point __add__ __sub__ __mul__ __neg__ __and__ __eq__ __contains__ divided least "
                     "greatest length at_most text",
    "grids/grid.py": "__init__ of unit __add__ __sub__ __mul__ __eq__ __getitem__ scaled turned part form trace",
}
FUNCTIONS = (ast.FunctionDef, ast.AsyncFunctionDef)


def parsed(path):
    return ast.parse(path.read_text(encoding="utf-8"))


class Files(unittest.TestCase):
    def test_package_holds_only_python_files(self):
        for path in PACKAGE.rglob("*"):
            if path.is_file() and path.parent.name != "__pycache__":
                self.assertEqual(path.suffix, ".py", path)
                self.assertRegex(path.stem, r"^[a-z0-9_]+$")

    def test_each_folder_has_an_init_file(self):
        for path in FILES:
            self.assertTrue((path.parent / "__init__.py").is_file(), path)

    def test_sizes(self):
        self.assertLessEqual(len(FILES), 100)
        for path in FILES:
            lines = path.read_text(encoding="utf-8").split("\n")
            self.assertLessEqual(len(lines), 400, path)
            for number, line in enumerate(lines, 1):
                self.assertLessEqual(len(line), 120, f"{path}:{number}")

    def test_characters(self):
        for path in FILES:
            for character in path.read_text(encoding="utf-8"):
                self.assertTrue(character == "\n" or " " <= character <= "~", (path, character))


class Code(unittest.TestCase):
    def test_imports(self):
        for path in FILES:
            for node in ast.walk(parsed(path)):
                self.assertNotIsInstance(node, ast.Import, path)
                if isinstance(node, ast.ImportFrom):
                    names = {alias.name for alias in node.names}
                    self.assertEqual(node.level, 0, path)
                    self.assertTrue(all(alias.asname is None for alias in node.names), path)
                    if node.module in LIBRARY:
                        self.assertLessEqual(names, LIBRARY[node.module], path)
                    else:
                        home = PACKAGE.parent / (node.module.replace(".", "/") + ".py")
                        defined = {item.name for item in parsed(home).body if hasattr(item, "name")}
                        self.assertLessEqual(names, defined, path)

    def test_functions_have_at_most_40_lines(self):
        for path in FILES:
            for node in ast.walk(parsed(path)):
                if isinstance(node, FUNCTIONS):
                    self.assertLessEqual(node.end_lineno - node.lineno + 1, 40, f"{path}: {node.name}")

    def test_nothing_that_the_subset_leaves_out(self):
        barred = (ast.AsyncFunctionDef, ast.Div, ast.Global, ast.Await, ast.AsyncFor, ast.AsyncWith)
        for path in FILES:
            for node in ast.walk(parsed(path)):
                self.assertNotIsInstance(node, barred, path)
                if isinstance(node, ast.Constant):
                    self.assertNotIsInstance(node.value, (float, complex), path)

    def test_interface_is_defined_where_it_is_listed(self):
        for name, wanted in INTERFACE.items():
            defined = [item.name for item in parsed(PACKAGE / name).body if hasattr(item, "name")]
            for item in wanted:
                self.assertIn(item, defined, name)

    def test_methods_stand_in_their_classes(self):
        for name, wanted in METHODS.items():
            classes = [item for item in parsed(PACKAGE / name).body if isinstance(item, ast.ClassDef)]
            defined = [item.name for item in classes[0].body if isinstance(item, FUNCTIONS)]
            for item in wanted.split():
                self.assertIn(item, defined, name)


if __name__ == "__main__":
    unittest.main()
