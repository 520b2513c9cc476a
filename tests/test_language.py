"""The files of the package keep those rules of LANGUAGE.md that can be seen file by file.

The tests are named after the rules. They do not stand in for reading LANGUAGE.md.
"""

import ast
import builtins
import re
import unittest
from pathlib import Path

PACKAGE = Path(__file__).resolve().parent.parent / "bestodds"
FILES = sorted(PACKAGE.rglob("*.py"))
TREES = {path: ast.parse(path.read_text(encoding="ascii")) for path in FILES}

LIBRARY = {
    "heapq": "heappush heappop heapify heapreplace heappushpop",
    "math": "gcd lcm isqrt comb perm factorial",
    "itertools": "product combinations permutations chain accumulate pairwise islice zip_longest",
    "collections": "defaultdict",
}

STATEMENTS = (
    ast.FunctionDef, ast.ClassDef, ast.ImportFrom, ast.Assign, ast.AugAssign, ast.AnnAssign,
    ast.If, ast.While, ast.For, ast.Return, ast.Break, ast.Continue, ast.Pass, ast.Raise,
    ast.Assert, ast.Delete, ast.Nonlocal, ast.Match, ast.With, ast.Try, ast.Expr,
)

BUILTINS = set("""
    len range enumerate zip min max sum abs sorted reversed int str bool list tuple dict set
    isinstance ord repr any all divmod pow iter next map super property staticmethod classmethod
    Exception ValueError TypeError KeyError IndexError LookupError ZeroDivisionError
    ArithmeticError OverflowError RuntimeError NotImplementedError AttributeError StopIteration
    NotImplemented
""".split())

METHODS = set("""
    append clear copy count endswith extend find get index insert isalnum isalpha isdigit islower
    isspace isupper items join keys ljust lower lstrip partition pop remove replace reverse rfind
    rjust rpartition rsplit rstrip setdefault split splitlines startswith strip update upper
    values zfill bit_length title capitalize swapcase casefold center expandtabs removeprefix
    removesuffix rindex isascii isdecimal isnumeric istitle isidentifier isprintable add discard
    sort format
""".split())

SPECIAL = set("__init__ __eq__ __repr__ __str__ __len__".split())

WORDS = re.compile(r"""\b(type|typing|typing_extensions|enum|Enum|IntEnum|StrEnum|Flag|IntFlag|
    Generic|Protocol|ABC|ABCMeta|namedtuple|NamedTuple|TypedDict|TYPE_CHECKING|abstractmethod|
    register|mro|elements|open|input|law|version_info)\b|dataclass|overload|contextmanager""",
    re.VERBOSE)


def nodes(*kinds):
    """The pairs of a file and a part of it of one of these kinds."""
    return [(path, node) for path, tree in TREES.items()
            for node in ast.walk(tree) if isinstance(node, kinds)]


def place(path, node):
    return f"{path.name}:{node.lineno}"


def bound_names(tree):
    """The names that are bound at module level, each as often as it is bound."""
    names = []
    for node in tree.body:
        if isinstance(node, (ast.FunctionDef, ast.ClassDef)):
            names.append(node.name)
        elif isinstance(node, ast.ImportFrom):
            names.extend(alias.name for alias in node.names)
        elif isinstance(node, ast.Assign):
            names.extend(target.id for target in node.targets)
    return names


class LanguageTest(unittest.TestCase):

    def test_l1_the_folder_holds_only_plain_files(self):
        for path in PACKAGE.rglob("*"):
            if "__pycache__" not in path.parts:
                self.assertRegex(path.name, r"\A[a-z0-9_]+\.py\Z")

    def test_l2_and_l16_imports(self):
        own = {f"bestodds.{path.stem}": path for path in FILES}
        self.assertEqual(nodes(ast.Import), [])
        for path, node in nodes(ast.ImportFrom):
            names = [alias.name for alias in node.names]
            with self.subTest(place(path, node)):
                self.assertEqual((node.level, [alias.asname for alias in node.names]),
                                 (0, [None] * len(names)))
                if node.module in own:
                    defined = [part.name for part in TREES[own[node.module]].body
                               if isinstance(part, (ast.FunctionDef, ast.ClassDef))]
                    values = [target.id for part in TREES[own[node.module]].body
                              if isinstance(part, ast.Assign) for target in part.targets]
                    self.assertLessEqual(set(names), set(defined + values))
                else:
                    self.assertLessEqual(set(names), set(LIBRARY[node.module].split()))

    def test_l3_module_level(self):
        for path, tree in TREES.items():
            for at, node in enumerate(tree.body):
                with self.subTest(place(path, node)):
                    self.assertIsInstance(node, (ast.ImportFrom, ast.FunctionDef, ast.ClassDef,
                                                 ast.Assign, ast.Expr))
                    if isinstance(node, ast.Expr):
                        self.assertTrue(at == 0 and isinstance(node.value.value, str))

    def test_l4_and_l5_decorators_and_special_methods(self):
        for path, node in nodes(ast.FunctionDef, ast.ClassDef):
            with self.subTest(place(path, node)):
                self.assertEqual(node.decorator_list, [])
                self.assertTrue(not node.name.startswith("__") or node.name in SPECIAL)

    def test_l6_statements(self):
        for path, node in nodes(ast.stmt):
            with self.subTest(place(path, node)):
                self.assertIsInstance(node, STATEMENTS)

    def test_l7_no_float_and_no_slash(self):
        self.assertEqual([place(*found) for found in nodes(ast.Div)], [])
        for path, node in nodes(ast.Constant):
            with self.subTest(place(path, node)):
                self.assertNotIsInstance(node.value, (float, complex))

    def test_l8_and_l15_builtins(self):
        for path, node in nodes(ast.Name, ast.arg):
            name = node.id if isinstance(node, ast.Name) else node.arg
            used = isinstance(node, ast.Name) and isinstance(node.ctx, ast.Load)
            with self.subTest(place(path, node)):
                self.assertTrue(not hasattr(builtins, name) or used and name in BUILTINS)

    def test_l10_sizes(self):
        for path in FILES:
            lines = path.read_text().split("\n")
            with self.subTest(path.name):
                self.assertLessEqual(len(lines), 399)
                self.assertLessEqual(max(len(line) for line in lines), 120)
        for path, node in nodes(ast.FunctionDef):
            with self.subTest(place(path, node)):
                self.assertLessEqual(node.end_lineno - node.lineno + 1, 40)

    def test_l14_characters(self):
        for path in FILES:
            with self.subTest(path.name):
                self.assertRegex(path.read_bytes().decode("ascii"), r"\A[ -~\n]*\Z")

    def test_l15_names_are_bound_once(self):
        for path, tree in TREES.items():
            names = bound_names(tree)
            with self.subTest(path.name):
                self.assertEqual(sorted(names), sorted(set(names)))
        for path, node in nodes(ast.FunctionDef):
            local = {arg.arg for arg in ast.walk(node) if isinstance(arg, ast.arg)}
            local |= {name.id for name in ast.walk(node)
                      if isinstance(name, ast.Name) and isinstance(name.ctx, ast.Store)}
            taken = {alias.name for part in TREES[path].body if isinstance(part, ast.ImportFrom)
                     for alias in part.names}
            taken |= {part.name for part in TREES[path].body if isinstance(part, ast.ClassDef)}
            with self.subTest(place(path, node)):
                self.assertEqual(local & taken, set())

    def test_l17_words(self):
        for path, node in nodes(ast.Name, ast.arg, ast.Attribute, ast.FunctionDef, ast.ClassDef):
            name = [getattr(node, field) for field in ("id", "arg", "attr", "name")
                    if hasattr(node, field)][0]
            with self.subTest(place(path, node)):
                self.assertNotRegex(name, WORDS)

    def test_l25_methods_of_builtin_values(self):
        own = {node.name for _, node in nodes(ast.FunctionDef)}
        for path, node in nodes(ast.Call):
            if isinstance(node.func, ast.Attribute):
                with self.subTest(place(path, node)):
                    self.assertIn(node.func.attr, METHODS | own)


    def test_l18_and_l26_methods_and_attributes(self):
        for path, node in nodes(ast.ClassDef):
            methods = [part.name for part in node.body if isinstance(part, ast.FunctionDef)]
            attributes = {part.attr for part in ast.walk(node)
                          if isinstance(part, ast.Attribute) and isinstance(part.ctx, ast.Store)}
            with self.subTest(place(path, node)):
                self.assertEqual(sorted(methods), sorted(set(methods)))
                self.assertEqual(set(methods) & attributes, set())
                self.assertEqual(attributes & METHODS, set())

    def test_l18_attributes_that_are_read_are_assigned(self):
        assigned = {node.attr for _, node in nodes(ast.Attribute) if isinstance(node.ctx, ast.Store)}
        called = {id(node.func) for _, node in nodes(ast.Call)}
        for path, node in nodes(ast.Attribute):
            if isinstance(node.ctx, ast.Load) and id(node) not in called:
                with self.subTest(place(path, node)):
                    self.assertIn(node.attr, assigned)


if __name__ == "__main__":
    unittest.main()
