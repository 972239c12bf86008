"""Some of the rules for the code of the package that a program can look up: L1 to L3, L8, L10, L14 to L18, L25."""

import ast
import builtins
import re
import unittest
from pathlib import Path

PACKAGE = Path(__file__).resolve().parent.parent / "halfnoted"
LIBRARY = {
    "heapq": "heappush heappop heapify heapreplace heappushpop", "math": "gcd lcm isqrt comb perm factorial",
    "itertools": "product combinations permutations chain accumulate pairwise islice zip_longest",
    "collections": "defaultdict", "__future__": "annotations",
}
BUILTINS = set(
    "len range enumerate zip min max sum abs sorted reversed int str bool bytes list tuple dict set frozenset "
    "isinstance ord repr any all divmod pow getattr hasattr setattr iter next map super property staticmethod "
    "classmethod object Exception ValueError TypeError KeyError IndexError LookupError ZeroDivisionError "
    "ArithmeticError OverflowError RuntimeError NotImplementedError AttributeError StopIteration "
    "NotImplemented".split())
METHODS = set(
    "append clear copy count endswith extend find get index insert isalnum isalpha isdigit islower isspace isupper "
    "items join keys ljust lower lstrip partition pop remove replace reverse rfind rjust rpartition rsplit rstrip "
    "setdefault split splitlines startswith strip update upper values zfill bit_length add discard sort "
    "format".split())
NOWHERE = set("register mro elements open input law version_info with_traceback add_note".split())
NOT_NAMES = set(
    "attrgetter breakpoint builtins compile copyright credits delattr dir eval exec exit gc globals help id importlib "
    "license locals methodcaller os quit type vars sys".split())
BARRED_WORDS = (
    "type typing typing_extensions enum Enum IntEnum StrEnum Flag IntFlag Generic Protocol ABC ABCMeta namedtuple "
    "NamedTuple TypedDict TYPE_CHECKING abstractmethod").split()
NOT_ATTRIBUTES = set(
    "items keys values pop update append clear extend insert remove reverse setdefault sort args encode decode hex "
    "fromhex format format_map mro as_integer_ratio bit_count conjugate from_bytes is_integer to_bytes".split())
NOT_ALLOWED = (ast.Global, ast.AsyncFunctionDef, ast.Await, ast.AsyncFor, ast.AsyncWith, ast.Div)


def files():
    return sorted(path for path in PACKAGE.rglob("*") if "__pycache__" not in path.parts)


def trees():
    return [(path, ast.parse(path.read_text())) for path in files()]


def bound_names(tree):
    """The names of variables, parameters, functions, classes and imports in a file."""
    for node in ast.walk(tree):
        if isinstance(node, ast.Name) and isinstance(node.ctx, ast.Store):
            yield node.id
        elif isinstance(node, ast.arg):
            yield node.arg
        elif isinstance(node, (ast.FunctionDef, ast.ClassDef)):
            yield node.name
        elif isinstance(node, ast.alias):
            yield node.asname or node.name


def without_docstrings(path, tree):
    """The lines of a file without its comments and docstrings."""
    lines = path.read_text().split("\n")
    for node in ast.walk(tree):
        if isinstance(node, (ast.Module, ast.ClassDef, ast.FunctionDef)) and ast.get_docstring(node) is not None:
            for at in range(node.body[0].lineno - 1, node.body[0].end_lineno):
                lines[at] = ""
    return [re.sub(r"#.*", "", line) for line in lines]


class LanguageTests(unittest.TestCase):
    def test_the_files_of_the_package(self):
        names = [path.name for path in files()]
        self.assertIn("__init__.py", names)
        for name in names:
            self.assertRegex(name, r"^([a-z][a-z0-9_]*|__init__|__main__)\.py$")
            self.assertNotIn(name[:-3], vars(builtins))

    def test_sizes_and_characters(self):
        for path, tree in trees():
            lines = path.read_text().split("\n")
            self.assertLessEqual(len(lines), 399, path.name)
            self.assertLessEqual(max(len(line) for line in lines), 120, path.name)
            self.assertRegex(path.read_text(), r"\A[ -~\n]*\Z")
            for node in ast.walk(tree):
                if isinstance(node, ast.FunctionDef):
                    self.assertLessEqual(node.end_lineno - node.lineno + 1, 40, node.name)

    def test_what_stands_at_module_level(self):
        allowed = (ast.ImportFrom, ast.FunctionDef, ast.ClassDef, ast.Assign)
        for path, tree in trees():
            for node in tree.body:
                is_text = isinstance(node, ast.Expr) and isinstance(node.value, ast.Constant)
                self.assertTrue(isinstance(node, allowed) or is_text, (path.name, node.lineno))

    def test_imports(self):
        for path, tree in trees():
            for node in ast.walk(tree):
                self.assertNotIsInstance(node, ast.Import, path.name)
                if isinstance(node, ast.ImportFrom) and node.module in LIBRARY:
                    self.assertLessEqual({one.name for one in node.names}, set(LIBRARY[node.module].split()))
                elif isinstance(node, ast.ImportFrom):
                    self.assertRegex(node.module, r"^halfnoted\.[a-z_]+$")
                    other = ast.parse((PACKAGE / (node.module.split(".")[1] + ".py")).read_text())
                    defined = set(bound_names(other))
                    self.assertLessEqual({one.name for one in node.names}, defined, path.name)

    def test_names(self):
        for path, tree in trees():
            for name in bound_names(tree):
                self.assertNotIn(name, NOWHERE | NOT_NAMES, path.name)
                self.assertNotIn(name, dir(builtins), path.name)
                self.assertRegex(name, r"^(_|_?[A-Za-z][A-Za-z0-9_]*|__[a-z]+__)$")
            for node in ast.walk(tree):
                if isinstance(node, ast.Name) and hasattr(builtins, node.id):
                    self.assertIn(node.id, BUILTINS, (path.name, node.lineno))
                if isinstance(node, ast.Attribute):
                    self.assertNotIn(node.attr, NOWHERE, path.name)
                if isinstance(node, ast.Attribute) and isinstance(node.ctx, ast.Store):
                    self.assertNotIn(node.attr, NOT_ATTRIBUTES, path.name)

    def test_no_variable_has_the_name_of_a_class_or_an_import(self):
        for path, tree in trees():
            outer = [node for node in tree.body if isinstance(node, (ast.ImportFrom, ast.ClassDef))]
            names = {name for node in outer for name in bound_names(node)
                     if isinstance(node, ast.ImportFrom) or name == node.name}
            for node in ast.walk(tree):
                if isinstance(node, ast.FunctionDef):
                    inner = {one.id for one in ast.walk(node) if isinstance(one, ast.Name)
                             and isinstance(one.ctx, ast.Store)} | {one.arg for one in ast.walk(node.args)
                                                                    if isinstance(one, ast.arg)}
                    inner |= {one.name for one in ast.walk(node) if isinstance(one, (ast.MatchAs, ast.MatchStar))}
                    self.assertFalse(inner & names, (path.name, node.name))

    def test_methods_that_are_called(self):
        own = {node.name for _, tree in trees() for node in ast.walk(tree) if isinstance(node, ast.FunctionDef)}
        for path, tree in trees():
            for node in ast.walk(tree):
                if isinstance(node, ast.Call) and isinstance(node.func, ast.Attribute):
                    self.assertIn(node.func.attr, METHODS | own | {"__init__"}, (path.name, node.lineno))

    def test_words_that_do_not_occur(self):
        barred = re.compile(r"\b(" + "|".join(BARRED_WORDS) + r")\b|dataclass|overload|contextmanager")
        for path, tree in trees():
            for line in without_docstrings(path, tree):
                self.assertIsNone(barred.search(line), (path.name, line))

    def test_forms_that_are_not_used(self):
        for path, tree in trees():
            for node in ast.walk(tree):
                self.assertNotIsInstance(node, NOT_ALLOWED, path.name)
                if isinstance(node, ast.Constant):
                    self.assertNotIsInstance(node.value, (float, complex), path.name)
                if isinstance(node, ast.Compare):
                    for sign, other in zip(node.ops, node.comparators):
                        if isinstance(sign, (ast.Is, ast.IsNot)):
                            self.assertIsInstance(other, ast.Constant, (path.name, node.lineno))


if __name__ == "__main__":
    unittest.main()
