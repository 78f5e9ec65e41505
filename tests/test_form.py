"""The form of the package: what shared/LANGUAGE.md asks of files, imports, names and sizes."""

import ast
import builtins
import re
import unittest
from functools import lru_cache
from pathlib import Path

PACKAGE = Path(__file__).resolve().parent.parent / "fewcarry"
FILES = sorted(PACKAGE.rglob("*.py"))
LIBRARY = {
    "heapq": {"heappush", "heappop", "heapify", "heapreplace", "heappushpop"},
    "math": {"gcd", "lcm", "isqrt", "comb", "perm", "factorial"},
    "itertools": {"product", "combinations", "permutations", "chain", "accumulate", "pairwise", "islice", "zip_longest"},
    "collections": {"defaultdict", "deque"},
    "__future__": {"annotations"},
}
INTERFACE = {
    "exact/errors.py": ["CarryError"],
    "exact/ratio.py": ["Ratio"],
    "exact/simplest.py": ["simplest"],
    "exact/span.py": ["Span"],
    "grids/grid.py": ["Grid"],
    "grids/solving.py": ["determinant", "inverse", "solution", "independent_columns", "rank", "mixture"],
    "grids/updates.py": ["update_factor", "updated_inverse"],
    "grids/squares.py": ["Squares", "squares_of"],
    "grids/order.py": ["at_most", "is_above", "least_factor"],
    "books/load.py": ["Load"],
    "books/book.py": ["Book", "joined"],
    "books/directions.py": ["strongest_direction"],
    "books/recasting.py": ["condensed", "recast"],
    "books/balance.py": ["balance", "power_of", "value_at"],
    "thins/bars.py": ["Bars"],
    "thins/potentials.py": ["ceiling_potential", "floor_potential"],
    "thins/scores.py": ["ceiling_score", "floor_score"],
    "thins/stand.py": ["Choice", "Stand"],
    "thins/thinning.py": ["Thinning"],
    "thins/exactly.py": ["square_rank", "exact_few"],
    "thins/fewest.py": ["Few", "fewest"],
    "certificates/claim.py": ["Claim"],
    "certificates/certificate.py": ["Certificate"],
    "certificates/judging.py": ["judge", "check"],
    "certificates/linking.py": ["chained", "beside", "scaled_claim", "chained_certificate", "beside_certificate",
                                "scaled_certificate"],
    "certificates/closest.py": ["least_high", "greatest_low", "determinant_span"],
    "nets/line.py": ["Line"],
    "nets/net.py": ["Net"],
    "nets/pieces.py": ["pieces", "bridges"],
    "nets/cuts.py": ["cut", "cut_lines"],
    "nets/heights.py": ["heights", "currents", "power"],
    "nets/resistance.py": ["resistance"],
    "nets/forests.py": ["forests", "forest_weight", "forest_share"],
    "nets/net_thinning.py": ["NetThinning", "exact_net"],
    "rounds/kinds.py": ["first_kind", "second_kind"],
    "rounds/doubts.py": ["doubt", "rounds_needed"],
    "rounds/course.py": ["Rounds"],
    "fits/fit.py": ["cost_of", "given_part", "Fit"],
    "fits/few_fit.py": ["cost_span", "fit_by_few"],
    "fits/volumes.py": ["volumes"],
    "fits/means.py": ["mean_shares", "mean_cost"],
    "fits/corners.py": ["corner_loads", "corner_shares"],
    "streams/merging.py": ["side_by_side", "thinned", "merge_plan"],
    "streams/stream.py": ["Stream"],
    "streams/watch.py": ["Watch"],
    "desk/question.py": ["Question"],
    "desk/desk.py": ["Desk"],
}
METHODS = {
    "Ratio": "__init__ read __add__ __sub__ __mul__ __pow__ __neg__ __abs__ __eq__ divided raised compare sign "
             "rounded_down rounded_up text",
    "Span": "__init__ point __add__ __sub__ __mul__ __neg__ __and__ __eq__ __contains__ divided least greatest "
            "length at_most text",
    "Grid": "__init__ of unit __add__ __sub__ __mul__ __eq__ __getitem__ scaled turned part form trace",
    "Squares": "__init__ __len__ summed",
    "Load": "__init__ __eq__",
    "Book": "__init__ read __len__ __iter__ __contains__ __add__ __eq__ load scaled without reweighed energy square "
            "core columns rank reduced pull pulls text",
    "Bars": "__init__ ceiling floor finest",
    "Choice": "__init__",
    "Stand": "__init__ start potentials scores choice following",
    "Thinning": "__init__ stands",
    "Few": "__init__",
    "Claim": "__init__ of low_grid high_grid",
    "Certificate": "__init__ read __eq__ text",
    "Line": "__init__",
    "Net": "__init__ read __len__ __iter__ __eq__ find_line as_book reweighed without with_line text",
    "NetThinning": "__init__",
    "Rounds": "__init__ advance run current_doubt power_span guess miss",
    "Fit": "__init__",
    "Stream": "__init__ __iadd__ feed levels summary",
    "Watch": "__init__ __iadd__ __isub__ limit put drop rebuild restrict take twin summary",
    "Question": "__init__",
    "Desk": "__init__ replayed do do_all names deeds kind_of book_of net_of summary_of exact ask report",
}
DOUBLE = {
    "__init__", "__eq__", "__len__", "__iter__", "__add__", "__sub__", "__mul__", "__pow__", "__and__", "__neg__",
    "__abs__", "__contains__", "__getitem__", "__iadd__", "__isub__",
}
FUNCTIONS = (ast.FunctionDef, ast.AsyncFunctionDef)
BUILTINS = set("len iter range enumerate zip min max sum abs sorted list tuple dict int str isinstance any all "
               "property classmethod staticmethod ValueError TypeError".split())
METHODS_OF_VALUES = set(
    "append clear copy count endswith extend find get index insert isalnum isalpha isdigit islower isspace isupper "
    "items join keys ljust lower lstrip partition pop remove replace reverse rfind rjust rpartition rsplit rstrip "
    "setdefault split splitlines startswith strip update upper values zfill bit_length isascii removeprefix "
    "removesuffix".split())
BARRED_WORDS = (
    "type", "typing", "typing_extensions", "enum", "Enum", "IntEnum", "StrEnum", "Flag", "IntFlag", "Generic",
    "Protocol", "ABC", "ABCMeta", "namedtuple", "NamedTuple", "TypedDict", "TYPE_CHECKING", "abstractmethod",
    r"\w*dataclass\w*", r"\w*overload\w*", r"\w*contextmanager\w*", "_wall", "_WallAttr", r"\w*Meta", r"metaclass=",
)
BARRED_NAMES = (
    r"^(_wall|_pe_|_dcw_|_enum_|_cm_|_twin_re_|_lay_|_law_|_stub_|_sre|_WallAttr)|"
    r"^(_cold|_tuplegetter|_outside|_record|_written_out|_member_names)[0-9_]*$|"
    r"^(register|mro|elements|open|input|law|version_info|with_traceback|add_note|format|format_map|args|encode|decode|"
    r"hex|fromhex)$"
)


@lru_cache(maxsize=None)
def parsed(path):
    return ast.parse(path.read_text(encoding="utf-8"))


def names_in(function):
    """The names of the parameters and the local variables of a function."""
    parameters = [item.arg for item in ast.walk(function) if isinstance(item, ast.arg)]
    return {*parameters, *[item.id for item in ast.walk(function)
                           if isinstance(item, ast.Name) and isinstance(item.ctx, ast.Store)]}


def imported_or_class(path):
    """The names of the imports and the classes of a module."""
    body = parsed(path).body
    imports = [alias.name for item in body if isinstance(item, ast.ImportFrom) for alias in item.names]
    return {*imports, *[item.name for item in body if isinstance(item, ast.ClassDef)]}


def bound_in(path):
    """The names of the functions, classes and values of a module."""
    names = set()
    for item in parsed(path).body:
        if isinstance(item, ast.Assign):
            names.update(target.id for target in item.targets)
        elif hasattr(item, "name"):
            names.add(item.name)
    return names


def without_comments(text):
    """The text of a module without comments and docstrings."""
    tree = ast.parse(text)
    for node in ast.walk(tree):
        if isinstance(node, (ast.Module, ast.ClassDef, *FUNCTIONS)) and ast.get_docstring(node) is not None:
            node.body[0].value.value = ""
    return ast.unparse(tree)


def nodes_of_package():
    return [node for path in FILES for node in ast.walk(parsed(path))]


def is_property(function):
    """Whether a method is a property, or the setter of one."""
    names = [item.attr if isinstance(item, ast.Attribute) else item.id for item in function.decorator_list]
    return names in (["property"], ["setter"])


def called_name(node):
    """The name of the function that a node calls by its bare name, or None."""
    return node.func.id if isinstance(node, ast.Call) and isinstance(node.func, ast.Name) else None


class Files(unittest.TestCase):
    def test_package_holds_only_python_files(self):
        for path in PACKAGE.rglob("*"):
            if path.is_file() and path.parent.name != "__pycache__":
                self.assertEqual(path.suffix, ".py", path)
                self.assertRegex(path.stem, r"^[a-z0-9_]+$")

    def test_each_folder_has_an_init_file(self):
        for path in FILES:
            self.assertTrue((path.parent / "__init__.py").is_file(), path)

    def test_sizes(self):
        self.assertLessEqual(len(FILES), 100)
        for path in FILES:
            lines = path.read_text(encoding="utf-8").split("\n")
            self.assertLessEqual(len(lines), 400, path)
            for number, line in enumerate(lines, 1):
                self.assertLessEqual(len(line), 120, f"{path}:{number}")

    def test_characters(self):
        for path in FILES:
            for character in path.read_text(encoding="utf-8"):
                self.assertTrue(character == "\n" or " " <= character <= "~", (path, character))


class Code(unittest.TestCase):
    def test_imports(self):
        for path in FILES:
            for node in ast.walk(parsed(path)):
                self.assertNotIsInstance(node, ast.Import, path)
                if isinstance(node, ast.ImportFrom):
                    names = {alias.name for alias in node.names}
                    self.assertEqual(node.level, 0, path)
                    self.assertTrue(all(alias.asname is None for alias in node.names), path)
                    if node.module in LIBRARY:
                        self.assertLessEqual(names, LIBRARY[node.module], path)
                    else:
                        home = PACKAGE.parent / (node.module.replace(".", "/") + ".py")
                        self.assertLessEqual(names, bound_in(home), path)

    def test_functions_have_at_most_40_lines(self):
        for path in FILES:
            for node in ast.walk(parsed(path)):
                if isinstance(node, FUNCTIONS):
                    self.assertLessEqual(node.end_lineno - node.lineno + 1, 40, f"{path}: {node.name}")

    def test_nothing_that_the_subset_leaves_out(self):
        barred = (ast.AsyncFunctionDef, ast.Div, ast.Global, ast.Await, ast.AsyncFor, ast.AsyncWith, ast.AugAssign,
                  ast.GeneratorExp, ast.AnnAssign, ast.Set, ast.SetComp, ast.Lambda, ast.Nonlocal, ast.With, ast.Assert,
                  ast.NamedExpr, ast.Match)
        for path in FILES:
            for node in ast.walk(parsed(path)):
                self.assertNotIsInstance(node, barred, path)
                if isinstance(node, ast.Constant):
                    self.assertNotIsInstance(node.value, (float, complex), path)
                    self.assertFalse(isinstance(node.value, str) and "%" in node.value, path)

    def test_double_underscores(self):
        for path in FILES:
            for node in ast.walk(parsed(path)):
                if isinstance(node, FUNCTIONS) and node.name.startswith("__"):
                    self.assertIn(node.name, DOUBLE, path)

    def test_no_local_name_is_that_of_something_else(self):
        for path in FILES:
            taken = imported_or_class(path) | set(dir(builtins))
            for node in ast.walk(parsed(path)):
                if isinstance(node, FUNCTIONS):
                    self.assertEqual(names_in(node) & taken, set(), f"{path}: {node.name}")

    def test_no_name_is_a_method_and_an_attribute(self):
        # Only properties are assigned like attributes.
        methods, attributes = set(), set()
        for node in nodes_of_package():
            if isinstance(node, ast.ClassDef):
                methods.update(item.name for item in node.body
                               if isinstance(item, FUNCTIONS) and not is_property(item))
            if isinstance(node, ast.Attribute) and isinstance(node.ctx, ast.Store):
                attributes.add(node.attr)
        self.assertEqual(methods & attributes, set())

    def test_identity_is_asked_only_of_none_true_and_false(self):
        for path in FILES:
            for node in ast.walk(parsed(path)):
                if isinstance(node, ast.Compare) and isinstance(node.ops[0], (ast.Is, ast.IsNot)):
                    self.assertIsInstance(node.comparators[0], ast.Constant, f"{path}:{node.lineno}")

    def test_only_errors_of_the_package_are_caught(self):
        for path in FILES:
            for node in ast.walk(parsed(path)):
                if isinstance(node, ast.ExceptHandler):
                    self.assertIn(node.type.id, bound_in(PACKAGE / "exact/errors.py"), path)

    def test_no_other_function_has_the_name_of_a_generator(self):
        functions = [node for path in FILES for node in ast.walk(parsed(path)) if isinstance(node, FUNCTIONS)]
        yielding = (ast.Yield, ast.YieldFrom)
        for function in functions:
            if any(isinstance(node, yielding) for node in ast.walk(function)):
                self.assertEqual([other.name for other in functions].count(function.name), 1, function.name)

    def test_generators_are_iterated_at_once(self):
        generators = {node.name for node in nodes_of_package() if isinstance(node, FUNCTIONS)
                      and any(isinstance(item, (ast.Yield, ast.YieldFrom)) for item in ast.walk(node))}
        self.assertEqual(generators, {"stands", "forests", "volumes"})
        for node in nodes_of_package():
            # Nothing in the package asks for them so far.
            if isinstance(node, ast.Call):
                name = node.func.attr if isinstance(node.func, ast.Attribute) else called_name(node)
                self.assertNotIn(name, generators)

    def test_builtins(self):
        for node in nodes_of_package():
            if isinstance(node, ast.Name) and isinstance(node.ctx, ast.Load) and hasattr(builtins, node.id):
                self.assertIn(node.id, BUILTINS)
            if isinstance(node, ast.Assign):
                self.assertNotIn(called_name(node.value), ("range", "zip", "enumerate", "reversed", "map", "iter"))

    def test_methods_that_are_called(self):
        own = {item.name for node in nodes_of_package() if isinstance(node, ast.ClassDef)
               for item in node.body if isinstance(item, FUNCTIONS)}
        for node in nodes_of_package():
            if isinstance(node, ast.Call) and isinstance(node.func, ast.Attribute):
                self.assertIn(node.func.attr, own | METHODS_OF_VALUES)

    def test_no_method_has_the_name_of_one_of_a_builtin_value(self):
        taken = {name for kind in (str, int, list, dict, set, bytes) for name in dir(kind)}
        for node in nodes_of_package():
            if isinstance(node, ast.ClassDef):
                names = {item.name for item in node.body if isinstance(item, FUNCTIONS)}
                self.assertEqual({name for name in names & taken if not name.startswith("__")}, set(), node.name)
            if isinstance(node, ast.Attribute) and isinstance(node.ctx, ast.Store):
                self.assertNotIn(node.attr, taken - {"count"})

    def test_names(self):
        for path in FILES:
            text = path.read_text(encoding="utf-8")
            for word in BARRED_WORDS:
                self.assertIsNone(re.search(rf"\b{word}\b", without_comments(text)), f"{path}: {word}")
            for node in ast.walk(parsed(path)):
                for name in (getattr(node, "id", ""), getattr(node, "attr", ""), getattr(node, "arg", "") or ""):
                    self.assertNotRegex(name, BARRED_NAMES, path)
                    self.assertFalse(name.startswith("__"), path)

    def test_underscore_is_never_read(self):
        for node in nodes_of_package():
            if isinstance(node, ast.Name) and node.id == "_":
                self.assertIsInstance(node.ctx, ast.Store)

    def test_tables_are_only_read(self):
        for path in FILES:
            body = parsed(path).body
            tables = {target.id for item in body if isinstance(item, ast.Assign)
                      and isinstance(item.value, (ast.Dict, ast.List)) for target in item.targets}
            allowed = set()
            for node in ast.walk(parsed(path)):
                if isinstance(node, ast.Subscript) and isinstance(node.ctx, ast.Load):
                    allowed.add((node.value.lineno, node.value.col_offset))
                if isinstance(node, ast.Compare) and isinstance(node.ops[0], (ast.In, ast.NotIn)):
                    allowed.add((node.comparators[0].lineno, node.comparators[0].col_offset))
            for node in ast.walk(parsed(path)):
                if isinstance(node, ast.Name) and node.id in tables and isinstance(node.ctx, ast.Load):
                    self.assertIn((node.lineno, node.col_offset), allowed, f"{path}: {node.id}")

    def test_module_level(self):
        for path in FILES:
            for item in parsed(path).body:
                if isinstance(item, ast.Expr):
                    self.assertIsInstance(item.value, ast.Constant, path)
                elif isinstance(item, ast.Assign):
                    self.assertEqual(len(item.targets), 1, path)
                    self.assertFalse(any(isinstance(node, ast.Call) for node in ast.walk(item)), path)
                else:
                    self.assertIsInstance(item, (ast.ImportFrom, ast.FunctionDef, ast.ClassDef), path)

    def test_exponents_are_literals(self):
        for node in nodes_of_package():
            if isinstance(node, ast.BinOp) and isinstance(node.op, ast.Pow):
                self.assertIsInstance(node.right, ast.Constant)

    def test_interface_is_defined_where_it_is_listed(self):
        for name, wanted in INTERFACE.items():
            defined = [item.name for item in parsed(PACKAGE / name).body if hasattr(item, "name")]
            for item in wanted:
                self.assertIn(item, defined, name)

    def test_methods_stand_in_their_classes(self):
        listed = [name for names in INTERFACE.values() for name in names]
        self.assertEqual({name for name in listed if name[0].isupper()}, {*METHODS, "CarryError"})
        for name, wanted in INTERFACE.items():
            for item in parsed(PACKAGE / name).body:
                if isinstance(item, ast.ClassDef) and item.name in wanted and item.name in METHODS:
                    defined = [method.name for method in item.body if isinstance(method, FUNCTIONS)]
                    for method in METHODS[item.name].split():
                        self.assertIn(method, defined, name)


if __name__ == "__main__":
    unittest.main()
