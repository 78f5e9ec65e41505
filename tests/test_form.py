"""The form of the package: what shared/LANGUAGE.md asks of files, imports, names and sizes."""

import ast
import builtins
import unittest
from pathlib import Path

PACKAGE = Path(__file__).resolve().parent.parent / "fewcarry"
FILES = sorted(PACKAGE.rglob("*.py"))
LIBRARY = {
    "heapq": {"heappush", "heappop", "heapify", "heapreplace", "heappushpop"},
    "math": {"gcd", "lcm", "isqrt", "comb", "perm", "factorial"},
    "itertools": {"product", "combinations", "permutations", "chain", "accumulate", "pairwise", "islice", "zip_longest"},
    "collections": {"defaultdict", "deque"},
    "__future__": {"annotations"},
}
INTERFACE = {
    "exact/errors.py": ["CarryError"],
    "exact/ratio.py": ["Ratio"],
    "exact/simplest.py": ["simplest"],
    "exact/span.py": ["Span"],
    "grids/grid.py": ["Grid"],
    "grids/solving.py": ["determinant", "inverse", "solution", "independent_columns", "rank", "mixture"],
    "grids/updates.py": ["update_factor", "updated_inverse"],
    "grids/squares.py": ["Squares", "squares_of"],
    "grids/order.py": ["at_most", "is_above", "least_factor"],
    "books/load.py": ["Load"],
    "books/book.py": ["Book", "joined"],
    "books/directions.py": ["strongest_direction"],
    "books/recasting.py": ["condensed", "recast"],
    "books/balance.py": ["balance", "power_of", "value_at"],
    "thins/bars.py": ["Bars"],
    "thins/potentials.py": ["ceiling_potential", "floor_potential"],
    "thins/scores.py": ["ceiling_score", "floor_score"],
    "thins/stand.py": ["Choice", "Stand"],
    "thins/thinning.py": ["Thinning"],
    "thins/exactly.py": ["square_rank", "exact_few"],
    "thins/fewest.py": ["Few", "fewest"],
    "certificates/claim.py": ["Claim"],
    "certificates/certificate.py": ["Certificate"],
    "certificates/judging.py": ["judge", "check"],
    "certificates/linking.py": ["chained", "beside", "scaled_claim", "chained_certificate", "beside_certificate",
                                "scaled_certificate"],
    "certificates/closest.py": ["least_high", "greatest_low", "determinant_span"],
    "nets/line.py": ["Line"],
    "nets/net.py": ["Net"],
    "nets/pieces.py": ["pieces", "bridges"],
    "nets/cuts.py": ["cut", "cut_lines"],
    "nets/heights.py": ["heights", "currents", "power"],
}
METHODS = {
    "Ratio": "__init__ read __add__ __sub__ __mul__ __pow__ __neg__ __abs__ __eq__ divided raised compare sign "
             "rounded_down rounded_up text",
    "Span": "__init__ point __add__ __sub__ __mul__ __neg__ __and__ __eq__ __contains__ divided least greatest "
            "length at_most text",
    "Grid": "__init__ of unit __add__ __sub__ __mul__ __eq__ __getitem__ scaled turned part form trace",
    "Squares": "__init__ __len__ summed",
    "Load": "__init__ __eq__",
    "Book": "__init__ read __len__ __iter__ __contains__ __add__ __eq__ load scaled without reweighed energy square "
            "core columns rank reduced pull pulls text",
    "Bars": "__init__ ceiling floor finest",
    "Choice": "__init__",
    "Stand": "__init__ start potentials scores choice following",
    "Thinning": "__init__ stands",
    "Few": "__init__",
    "Claim": "__init__ of low_grid high_grid",
    "Certificate": "__init__ read __eq__ text",
    "Line": "__init__",
    "Net": "__init__ read __len__ __iter__ __eq__ find_line as_book reweighed without with_line text",
}
DOUBLE = {
    "__init__", "__eq__", "__len__", "__iter__", "__add__", "__sub__", "__mul__", "__pow__", "__and__", "__neg__",
    "__abs__", "__contains__", "__getitem__",
}
FUNCTIONS = (ast.FunctionDef, ast.AsyncFunctionDef)


def parsed(path):
    return ast.parse(path.read_text(encoding="utf-8"))


def names_in(function):
    """The names of the parameters and the local variables of a function."""
    parameters = [item.arg for item in ast.walk(function) if isinstance(item, ast.arg)]
    return {*parameters, *[item.id for item in ast.walk(function)
                           if isinstance(item, ast.Name) and isinstance(item.ctx, ast.Store)]}


def imported_or_class(path):
    """The names of the imports and the classes of a module."""
    body = parsed(path).body
    imports = [alias.name for item in body if isinstance(item, ast.ImportFrom) for alias in item.names]
    return {*imports, *[item.name for item in body if isinstance(item, ast.ClassDef)]}


def bound_in(path):
    """The names of the functions, classes and values of a module."""
    names = set()
    for item in parsed(path).body:
        if isinstance(item, ast.Assign):
            names.update(target.id for target in item.targets)
        elif hasattr(item, "name"):
            names.add(item.name)
    return names


class Files(unittest.TestCase):
    def test_package_holds_only_python_files(self):
        for path in PACKAGE.rglob("*"):
            if path.is_file() and path.parent.name != "__pycache__":
                self.assertEqual(path.suffix, ".py", path)
                self.assertRegex(path.stem, r"^[a-z0-9_]+$")

    def test_each_folder_has_an_init_file(self):
        for path in FILES:
            self.assertTrue((path.parent / "__init__.py").is_file(), path)

    def test_sizes(self):
        self.assertLessEqual(len(FILES), 100)
        for path in FILES:
            lines = path.read_text(encoding="utf-8").split("\n")
            self.assertLessEqual(len(lines), 400, path)
            for number, line in enumerate(lines, 1):
                self.assertLessEqual(len(line), 120, f"{path}:{number}")

    def test_characters(self):
        for path in FILES:
            for character in path.read_text(encoding="utf-8"):
                self.assertTrue(character == "\n" or " " <= character <= "~", (path, character))


class Code(unittest.TestCase):
    def test_imports(self):
        for path in FILES:
            for node in ast.walk(parsed(path)):
                self.assertNotIsInstance(node, ast.Import, path)
                if isinstance(node, ast.ImportFrom):
                    names = {alias.name for alias in node.names}
                    self.assertEqual(node.level, 0, path)
                    self.assertTrue(all(alias.asname is None for alias in node.names), path)
                    if node.module in LIBRARY:
                        self.assertLessEqual(names, LIBRARY[node.module], path)
                    else:
                        home = PACKAGE.parent / (node.module.replace(".", "/") + ".py")
                        self.assertLessEqual(names, bound_in(home), path)

    def test_functions_have_at_most_40_lines(self):
        for path in FILES:
            for node in ast.walk(parsed(path)):
                if isinstance(node, FUNCTIONS):
                    self.assertLessEqual(node.end_lineno - node.lineno + 1, 40, f"{path}: {node.name}")

    def test_nothing_that_the_subset_leaves_out(self):
        barred = (ast.AsyncFunctionDef, ast.Div, ast.Global, ast.Await, ast.AsyncFor, ast.AsyncWith, ast.AugAssign,
                  ast.GeneratorExp, ast.AnnAssign)
        for path in FILES:
            for node in ast.walk(parsed(path)):
                self.assertNotIsInstance(node, barred, path)
                if isinstance(node, ast.Constant):
                    self.assertNotIsInstance(node.value, (float, complex), path)
                    self.assertFalse(isinstance(node.value, str) and "%" in node.value, path)

    def test_double_underscores(self):
        for path in FILES:
            for node in ast.walk(parsed(path)):
                if isinstance(node, FUNCTIONS) and node.name.startswith("__"):
                    self.assertIn(node.name, DOUBLE, path)

    def test_no_local_name_is_that_of_something_else(self):
        for path in FILES:
            taken = imported_or_class(path) | set(dir(builtins))
            for node in ast.walk(parsed(path)):
                if isinstance(node, FUNCTIONS):
                    self.assertEqual(names_in(node) & taken, set(), f"{path}: {node.name}")

    def test_no_name_is_a_method_and_an_attribute_of_one_class(self):
        for path in FILES:
            for node in ast.walk(parsed(path)):
                if isinstance(node, ast.ClassDef):
                    methods = {item.name for item in node.body if isinstance(item, FUNCTIONS)}
                    attributes = {item.attr for item in ast.walk(node)
                                  if isinstance(item, ast.Attribute) and isinstance(item.ctx, ast.Store)}
                    self.assertEqual(methods & attributes, set(), f"{path}: {node.name}")

    def test_identity_is_asked_only_of_none_true_and_false(self):
        for path in FILES:
            for node in ast.walk(parsed(path)):
                if isinstance(node, ast.Compare) and isinstance(node.ops[0], (ast.Is, ast.IsNot)):
                    self.assertIsInstance(node.comparators[0], ast.Constant, f"{path}:{node.lineno}")

    def test_only_errors_of_the_package_are_caught(self):
        for path in FILES:
            for node in ast.walk(parsed(path)):
                if isinstance(node, ast.ExceptHandler):
                    self.assertIn(node.type.id, bound_in(PACKAGE / "exact/errors.py"), path)

    def test_no_other_function_has_the_name_of_a_generator(self):
        functions = [node for path in FILES for node in ast.walk(parsed(path)) if isinstance(node, FUNCTIONS)]
        yielding = (ast.Yield, ast.YieldFrom)
        for function in functions:
            if any(isinstance(node, yielding) for node in ast.walk(function)):
                self.assertEqual([other.name for other in functions].count(function.name), 1, function.name)

    def test_interface_is_defined_where_it_is_listed(self):
        for name, wanted in INTERFACE.items():
            defined = [item.name for item in parsed(PACKAGE / name).body if hasattr(item, "name")]
            for item in wanted:
                self.assertIn(item, defined, name)

    def test_methods_stand_in_their_classes(self):
        listed = [name for names in INTERFACE.values() for name in names]
        self.assertEqual({name for name in listed if name[0].isupper()}, {*METHODS, "CarryError"})
        for name, wanted in INTERFACE.items():
            for item in parsed(PACKAGE / name).body:
                if isinstance(item, ast.ClassDef) and item.name in wanted and item.name in METHODS:
                    defined = [method.name for method in item.body if isinstance(method, FUNCTIONS)]
                    for method in METHODS[item.name].split():
                        self.assertIn(method, defined, name)


if __name__ == "__main__":
    unittest.main()
