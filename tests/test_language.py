"""The files of the package keep to the rules of the language, as far as they can be seen in their text."""

import ast
import builtins
import re
import unittest
import warnings
from pathlib import Path

PACKAGE = Path(__file__).resolve().parent.parent / "cellrises"
LIBRARY = {
    "heapq": {"heappush", "heappop", "heapify", "heapreplace", "heappushpop"},
    "math": {"gcd", "lcm", "isqrt", "comb", "perm", "factorial"},
    "itertools": {
        "product", "combinations", "permutations", "chain", "accumulate", "pairwise", "islice", "zip_longest",
    },
}
BUILTINS = set(
    "len range enumerate zip min max sum abs sorted reversed int str bool list tuple dict set isinstance ord repr any all "
    "divmod map Exception ValueError TypeError KeyError IndexError LookupError ZeroDivisionError super".split()
)
METHODS = set(
    "append clear copy count endswith extend find get index insert isalnum isalpha isdigit islower isspace isupper items join "
    "keys ljust lower lstrip partition pop remove replace reverse rfind rjust rpartition rsplit rstrip setdefault split "
    "splitlines startswith strip update upper values zfill bit_length sort add discard __init__".split()
)
NEVER = {"register", "mro", "elements", "open", "input", "law", "version_info", "with_traceback", "add_note"}
WORDS = re.compile(
    r"\b(type|typing|typing_extensions|enum|Enum|IntEnum|StrEnum|Flag|IntFlag|Generic|Protocol|ABC|ABCMeta|namedtuple|"
    r"NamedTuple|TypedDict|TYPE_CHECKING|abstractmethod)\b|dataclass|overload|contextmanager|_wall|_WallAttr"
)
STARTS = ("_wall", "_pe_", "_dcw_", "_enum_", "_cm_", "_twin_re_", "_lay_", "_law_", "_stub_", "_sre", "_WallAttr")
STATEMENTS = (
    ast.FunctionDef, ast.ClassDef, ast.Return, ast.Assign, ast.AugAssign, ast.For, ast.While, ast.If, ast.Raise, ast.Assert,
    ast.ImportFrom, ast.Expr, ast.Pass, ast.Break, ast.Continue, ast.Delete, ast.Try, ast.Nonlocal,
)
ON_THE_SPOT = {"zip", "enumerate", "reversed", "combinations", "permutations", "product", "chain", "map"}
TAKERS = {"list", "tuple", "dict", "sorted", "sum", "any", "all", "enumerate", "zip", "min", "max", "len"}
INTERFACE = {
    "forms": {
        "is_form": "value", "degree_of": "form", "plus": "form other", "times_number": "form fraction", "product": "form other",
        "rise": "form", "lowered": "form", "sum_of": "form",
    },
    "led": {
        "is_face": "dimension value", "faces_of": "dimension least", "led": "form corners", "trace": "form face",
        "sum_over": "form face",
    },
    "closed": {"is_closed": "form", "risen_from": "form"},
    "spans": {
        "are_forms": "value", "base_of": "forms", "rank_of": "forms", "is_within": "forms form", "lies_in": "forms others",
        "stray_of": "forms others", "common": "forms others", "rises_of": "forms", "closed_of": "forms",
        "traces_of": "forms face", "noughts_on_rim": "forms", "whole_span": "dimension degree sort",
        "trimmed_span": "dimension degree sort", "is_exact": "forms others", "closed_stray": "forms others",
    },
    "measures": {
        "is_weight": "dimension sort value", "measure": "form weight", "table_of": "forms weights", "settles": "forms weights",
        "missed_form": "forms weights", "tied_weights": "forms weights", "base_beside": "forms weights",
        "form_with": "forms weights numbers",
    },
    "elements": {
        "is_element": "value", "told_tests": "kind dimension degree sort", "told_element": "kind dimension degree sort",
        "weights_of": "element", "settles_cell": "element", "living_on": "element face",
    },
    "measured": {"measured": "element form", "keeps_rises": "element other", "parting_form": "element other"},
    "meetings": {
        "joins": "element", "jumping_pair": "element", "joins_against": "element test", "against_pair": "element test",
        "count_with": "element counts",
    },
    "partings": {"is_parting": "value", "faces_in": "parting dimension", "common_face": "parting index other"},
    "chains": {
        "border": "parting chain", "is_round": "parting held chain", "rounds_of": "parting held dimension",
        "holes": "parting held dimension", "bounding": "parting held chain", "weights_against": "parting held chain",
    },
    "joined": {
        "is_joined": "parting joined", "count_of": "parting held kind degree sort", "numbers_of": "parting kind degree joined",
        "joined_with": "parting kind degree sort numbers", "is_held": "parting held joined", "rises": "parting joined",
        "sum_along": "parting joined chain",
    },
    "potentials": {
        "potential": "parting held kind degree joined", "barring_round": "parting held kind degree joined",
        "closed_count": "parting held kind degree sort", "risen_count": "parting held kind degree sort",
    },
    "checker": {"accepts": "claim paper"},
    "certificates": {
        "certify_rise": "form", "certify_within": "forms form", "certify_exact": "forms others",
        "certify_settling": "forms weights", "certify_joining": "element", "certify_against": "element test",
        "certify_rises": "element other", "certify_round": "parting held chain", "certify_bounding": "parting held chain",
        "certify_holes": "parting held dimension", "certify_joined": "parting joined",
        "certify_risen": "parting held kind degree joined",
    },
}


def sources():
    """The texts of the files by their names."""
    return {path.name: path.read_text(encoding="utf-8") for path in sorted(PACKAGE.glob("*.py"))}


def trees():
    """The trees of the files by their names."""
    with warnings.catch_warnings():
        warnings.simplefilter("error")
        return {name: ast.parse(text) for name, text in sources().items()}


def nodes(kinds):
    """All nodes of some kinds, with the file and the line."""
    found = []
    for name, tree in trees().items():
        found += [(f"{name}:{getattr(node, 'lineno', 0)}", node) for node in ast.walk(tree) if isinstance(node, kinds)]
    return found


def with_parents(tree):
    """All nodes with the ones that they stand in."""
    return [(child, parent) for parent in ast.walk(tree) for child in ast.iter_child_nodes(parent)]


def imported(tree):
    """The names that a file imports."""
    return [alias.name for node in tree.body if isinstance(node, ast.ImportFrom) for alias in node.names]


def bound(tree):
    """The names that a file binds at module level."""
    names = imported(tree)
    for node in tree.body:
        if isinstance(node, (ast.FunctionDef, ast.ClassDef)):
            names.append(node.name)
        elif isinstance(node, ast.Assign):
            names += [target.id for target in node.targets]
    return names


def is_plain(value, names):
    """Whether a value at module level is a plain one, or a dict from texts to functions that are told above it."""
    if isinstance(value, ast.Dict) and all(isinstance(each, ast.Name) for each in value.values):
        return all(each.id in names for each in value.values) and all(isinstance(each, ast.Constant) for each in value.keys)
    try:
        ast.literal_eval(value)
    except ValueError:
        return False
    return True


def local_names(function):
    """The parameters and local variables of a function."""
    names = [each.arg for each in ast.walk(function.args) if isinstance(each, ast.arg)]
    return names + [node.id for node in ast.walk(function) if isinstance(node, ast.Name) and isinstance(node.ctx, ast.Store)]


class Files(unittest.TestCase):
    def test_names_and_sizes(self):
        for path in PACKAGE.rglob("*"):
            if "__pycache__" not in path.parts:
                self.assertRegex(path.name, r"\A([a-z][a-z0-9_]*|__init__)\.py\Z")
        self.assertIn("__init__.py", sources())
        for name, text in sources().items():
            with self.subTest(file=name):
                self.assertLess(len(text.splitlines()), 400)
                self.assertLessEqual(max(len(line) for line in text.splitlines()), 120)
                self.assertRegex(text, r"\A[\n -~]*\n\Z")

    def test_barred_words(self):
        for name, tree in trees().items():
            for node in ast.walk(tree):
                for text in (getattr(node, "id", ""), getattr(node, "attr", ""), getattr(node, "name", "")):
                    if isinstance(text, str):
                        self.assertNotRegex(text, WORDS, name)
                        self.assertNotIn(text, NEVER, name)
                        self.assertFalse(text.startswith(STARTS), (name, text))

    def test_functions_are_short(self):
        for place, node in nodes(ast.FunctionDef):
            with self.subTest(place=place):
                self.assertLessEqual(node.end_lineno - node.lineno + 1, 40)
                self.assertEqual(node.decorator_list, [])
                if node.name != "__init__":
                    self.assertIsNotNone(ast.get_docstring(node))

    def test_interface_is_defined_where_it_is_listed(self):
        for name, functions in INTERFACE.items():
            told = {node.name: node.args for node in trees()[f"{name}.py"].body if isinstance(node, ast.FunctionDef)}
            for function, parameters in functions.items():
                with self.subTest(module=name, function=function):
                    self.assertEqual(" ".join(each.arg for each in told[function].args), parameters)
                    self.assertEqual(told[function].defaults, [])


class Imports(unittest.TestCase):
    def test_what_is_imported(self):
        told = {name[:-3]: set(bound(tree)) - set(imported(tree)) for name, tree in trees().items()}
        for place, node in nodes((ast.Import, ast.ImportFrom)):
            with self.subTest(place=place):
                self.assertIsInstance(node, ast.ImportFrom)
                self.assertEqual(node.level, 0)
                self.assertEqual([alias.asname for alias in node.names if alias.asname is not None], [])
                names = {alias.name for alias in node.names}
                if node.module in LIBRARY:
                    self.assertLessEqual(names, LIBRARY[node.module])
                else:
                    package, file = node.module.split(".")
                    self.assertEqual(package, "cellrises")
                    self.assertLessEqual(names, told[file])

    def test_imports_are_used(self):
        for name, tree in trees().items():
            used = {node.id for node in ast.walk(tree) if isinstance(node, ast.Name)}
            self.assertEqual([each for each in imported(tree) if each not in used], [], name)

    def test_no_circles(self):
        needs = {}
        for name, tree in trees().items():
            modules = [node.module for node in tree.body if isinstance(node, ast.ImportFrom)]
            needs[name[:-3]] = {module.split(".")[1] for module in modules if module.startswith("cellrises.")}
        while needs:
            free = [name for name in needs if not needs[name]]
            self.assertTrue(free, needs)
            needs = {name: needs[name] - set(free) for name in needs if name not in free}


class Text(unittest.TestCase):
    def test_module_level(self):
        for name, tree in trees().items():
            names = bound(tree)
            self.assertEqual(len(names), len(set(names)), name)
            for node in tree.body[1:]:
                self.assertIsInstance(node, (ast.ImportFrom, ast.FunctionDef, ast.ClassDef, ast.Assign), name)
                if isinstance(node, ast.Assign):
                    self.assertTrue(is_plain(node.value, names[:names.index(node.targets[0].id)]), (name, node.lineno))

    def test_statements(self):
        for place, node in nodes(ast.stmt):
            self.assertIsInstance(node, STATEMENTS, place)

    def test_expressions(self):
        barred = (ast.AsyncFunctionDef, ast.Await, ast.Div, ast.MatMult, ast.Global, ast.NamedExpr, ast.Pow, ast.JoinedStr)
        self.assertEqual([place for place, _ in nodes(barred)], [])
        for place, node in nodes(ast.Constant):
            self.assertNotIsInstance(node.value, (float, complex, bytes), place)
        for place, node in nodes(ast.Compare):
            for sign, other in zip(node.ops, node.comparators):
                if isinstance(sign, (ast.Is, ast.IsNot)):
                    self.assertIsInstance(other, ast.Constant, place)

    def test_names(self):
        for name, tree in trees().items():
            tops = set(imported(tree)) | {node.name for node in tree.body if isinstance(node, ast.ClassDef)}
            for each in bound(tree):
                self.assertNotIn(each, dir(builtins), name)
            for node in ast.walk(tree):
                if isinstance(node, ast.FunctionDef):
                    for each in local_names(node):
                        self.assertRegex(each, r"\A(_|_?[A-Za-z][A-Za-z0-9_]*)\Z", (name, node.lineno))
                        self.assertNotIn(each, dir(builtins), (name, node.lineno))
                        self.assertNotIn(each, tops, (name, node.lineno))
                if isinstance(node, ast.Name) and isinstance(node.ctx, ast.Load):
                    self.assertNotEqual(node.id, "_", (name, node.lineno))
                    if node.id in dir(builtins):
                        self.assertIn(node.id, BUILTINS, (name, node.lineno))

    def test_methods(self):
        for place, node in nodes(ast.Call):
            if isinstance(node.func, ast.Attribute):
                self.assertIn(node.func.attr, METHODS, place)

    def test_iterated_on_the_spot(self):
        for name, tree in trees().items():
            for node, parent in with_parents(tree):
                if not isinstance(node, ast.Call):
                    continue
                views = isinstance(node.func, ast.Attribute) and node.func.attr in ("items", "keys", "values")
                if views or isinstance(node.func, ast.Name) and node.func.id in ON_THE_SPOT:
                    taken = isinstance(parent, ast.Call) and getattr(parent.func, "id", "") in TAKERS
                    at_once = isinstance(parent, (ast.For, ast.comprehension)) and parent.iter is node
                    self.assertTrue(taken or at_once, (name, node.lineno))

    def test_sets_and_generator_expressions(self):
        for name, tree in trees().items():
            for node, parent in with_parents(tree):
                if isinstance(node, (ast.Set, ast.SetComp)):
                    self.assertIn(getattr(getattr(parent, "func", None), "id", ""), ("sorted", "len"), (name, node.lineno))
                if isinstance(node, ast.GeneratorExp):
                    self.assertIn(getattr(getattr(parent, "func", None), "id", ""), TAKERS, (name, node.lineno))

    def test_errors_are_raised_by_name(self):
        classes = {node.name for node in trees()["errors.py"].body if isinstance(node, ast.ClassDef)}
        for place, node in nodes(ast.Raise):
            self.assertIsInstance(node.exc, ast.Call, place)
            self.assertIn(node.exc.func.id, classes, place)
        for place, node in nodes(ast.ClassDef):
            self.assertEqual([base.id for base in node.bases if base.id not in ("CellError", "ValueError")], [], place)


if __name__ == "__main__":
    unittest.main()
