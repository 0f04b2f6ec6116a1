"""The files of the package keep those rules of the language that can be seen line by line.

Not all rules are checked here. No clock, no random source, no file and no network can be
reached by a package that imports nothing from outside and uses only these builtins.
"""

import ast
import builtins
import io
import keyword
import re
import tokenize
import unittest
from pathlib import Path

PACKAGE = Path(__file__).resolve().parent.parent / "scatterwords"
FILES = sorted(PACKAGE.rglob("*.py"))

LIBRARY = {
    "heapq": ("heappush", "heappop", "heapify", "heapreplace", "heappushpop"),
    "math": ("gcd", "lcm", "isqrt", "comb", "perm", "factorial"),
    "itertools": ("product", "combinations", "permutations"),
}
BUILTINS = set(
    "len range enumerate zip min max sum abs sorted reversed int str bool bytes list tuple dict "
    "set frozenset isinstance ord repr any all divmod iter next map property staticmethod "
    "classmethod super Exception ValueError TypeError KeyError IndexError LookupError "
    "ZeroDivisionError ArithmeticError OverflowError RuntimeError NotImplementedError "
    "AttributeError StopIteration NotImplemented".split())
METHODS = set(
    "__init__ __eq__ __repr__ __str__ __len__ __enter__ __exit__ __call__ __iter__ __lt__ __le__ "
    "__gt__ __ge__ __ne__ __contains__ __getitem__ __setitem__ __bool__ __add__ __sub__ __mul__ "
    "__and__ __or__ __xor__ __neg__ __invert__".split())
BARRED_WORDS = re.compile(
    r"\b(type|typing|typing_extensions|enum|Enum|IntEnum|StrEnum|Flag|IntFlag|Generic|Protocol|"
    r"ABC|ABCMeta|namedtuple|NamedTuple|TypedDict|TYPE_CHECKING|abstractmethod)\b")
BARRED_NAMES = set(
    "register mro elements open input law version_info with_traceback add_note attrgetter "
    "breakpoint builtins compile copyright credits delattr dir eval exec exit gc getattr globals "
    "hasattr help id importlib license locals methodcaller os quit setattr super type vars sys"
    .split())
# The methods of builtin values that may be called.
BUILTIN_METHODS = set(
    "append clear copy count endswith extend find get index insert isalnum isalpha isdigit islower "
    "isspace isupper items join keys ljust lower lstrip partition pop remove replace reverse rfind "
    "rjust rpartition rsplit rstrip setdefault split splitlines startswith strip update upper values "
    "zfill bit_length".split())
BUILTIN_VALUES = ("", 1, [], {}, b"", (), set())
NOT_ALLOWED = (ast.GeneratorExp, ast.Global, ast.AsyncFunctionDef, ast.Await, ast.Import)


def nodes_of(path, *kinds):
    """Return the nodes of some kinds in a file."""
    return [node for node in ast.walk(ast.parse(path.read_text())) if isinstance(node, kinds)]


def bound_names(path):
    """Return the names that a file gives to what it defines, imports and assigns."""
    names = [node.name for node in nodes_of(path, ast.FunctionDef, ast.ClassDef)]
    names += [node.arg for node in nodes_of(path, ast.arg)]
    names += [node.asname or node.name for node in nodes_of(path, ast.alias)]
    names += [node.id for node in nodes_of(path, ast.Name) if isinstance(node.ctx, ast.Store)]
    return names


def tokens_without_comments(path):
    """Return the parts of a file that are neither comments nor docstrings."""
    docstrings = []
    for node in nodes_of(path, ast.Module, ast.ClassDef, ast.FunctionDef):
        if ast.get_docstring(node) is not None:
            docstrings.append(node.body[0].lineno)
    tokens = tokenize.generate_tokens(io.StringIO(path.read_text()).readline)
    return [token.string for token in tokens if token.type != tokenize.COMMENT
            and not (token.type == tokenize.STRING and token.start[0] in docstrings)]


class PackageFolder(unittest.TestCase):
    def test_holds_only_python_files(self):
        for path in PACKAGE.rglob("*"):
            if "__pycache__" not in path.parts:
                self.assertTrue(path.is_dir() or path.suffix == ".py", path)

    def test_has_an_init_file_and_no_tests(self):
        self.assertIn(PACKAGE / "__init__.py", FILES)
        for path in FILES:
            self.assertRegex(path.stem, r"\A([a-z][a-z0-9_]*|__init__|__main__)\Z")
            self.assertNotRegex(path.stem, r"\A(law_|test)")


class EachFile(unittest.TestCase):
    """The rules that hold for each file by itself."""

    def test_characters_and_sizes(self):
        for path in FILES:
            with self.subTest(path.name):
                text = path.read_bytes().decode("ascii")
                self.assertNotRegex(text, r"[^\n -~]")
                lines = text.split("\n")
                self.assertLessEqual(len(lines), 400)
                self.assertLessEqual(max(len(line) for line in lines), 120)
                for node in nodes_of(path, ast.FunctionDef):
                    self.assertLessEqual(node.end_lineno - node.lineno + 1, 40, node.name)

    def test_imports(self):
        for path in FILES:
            with self.subTest(path.name):
                for node in nodes_of(path, ast.ImportFrom):
                    self.assertEqual(node.level, 0)
                    names = [row.name for row in node.names]
                    if node.module in LIBRARY:
                        self.assertLessEqual(set(names), set(LIBRARY[node.module]))
                    else:
                        self.assertRegex(node.module, r"\Ascatterwords\.")
                        self.assertNotIn("*", names)

    def test_statements_and_expressions(self):
        for path in FILES:
            with self.subTest(path.name):
                for node in nodes_of(path, *NOT_ALLOWED):
                    self.fail(f"line {node.lineno}: {ast.unparse(node)}")
                for node in nodes_of(path, ast.BinOp, ast.AugAssign):
                    self.assertNotIsInstance(node.op, (ast.Div, ast.MatMult))
                for node in nodes_of(path, ast.Constant):
                    self.assertNotIsInstance(node.value, (float, complex))
                    if isinstance(node.value, str):
                        self.assertNotIn("%", node.value)
                for node in nodes_of(path, ast.Compare):
                    if any(isinstance(sign, (ast.Is, ast.IsNot)) for sign in node.ops):
                        self.assertIn(ast.unparse(node.comparators[-1]), ("None", "True", "False"))

    def test_builtins(self):
        barred = set(dir(builtins)) - BUILTINS - {"None", "True", "False"}
        for path in FILES:
            with self.subTest(path.name):
                for node in nodes_of(path, ast.Name):
                    self.assertNotIn(node.id, barred)
                for name in bound_names(path):
                    # The interface asks for a method that sets have, too.
                    if not name.startswith("__") and name != "difference":
                        self.assertFalse(hasattr(builtins, name), name)

    def test_names(self):
        for path in FILES:
            with self.subTest(path.name):
                for name in bound_names(path):
                    if name != "_" and name not in METHODS:
                        self.assertRegex(name, r"\A_?[A-Za-z][A-Za-z0-9_]*\Z")
                    self.assertNotIn(name, BARRED_NAMES)
                    self.assertFalse(keyword.iskeyword(name))

    def test_words_and_escapes(self):
        for path in FILES:
            with self.subTest(path.name):
                for part in tokens_without_comments(path):
                    self.assertNotRegex(part, BARRED_WORDS)
                    self.assertNotRegex(part, r"dataclass|overload|contextmanager|_wall|_WallAttr")
                    self.assertNotRegex(part, r"\\[^\n\\'\"nt]")

    def test_module_level(self):
        for path in FILES:
            with self.subTest(path.name):
                seen = []
                for node in ast.parse(path.read_text()).body:
                    self.assertIsInstance(node, (ast.Expr, ast.ImportFrom, ast.FunctionDef,
                                                 ast.ClassDef, ast.Assign))
                    if isinstance(node, ast.Expr):
                        self.assertIsInstance(node.value, ast.Constant)
                    if isinstance(node, ast.Assign):
                        self.assertEqual([type(target) for target in node.targets], [ast.Name])
                        seen.append(node.targets[0].id)
                self.assertEqual(len(seen), len(set(seen)))

    def test_no_local_name_hides_an_import_or_a_class(self):
        for path in FILES:
            with self.subTest(path.name):
                outer = [row.name for row in nodes_of(path, ast.alias)]
                outer += [node.name for node in nodes_of(path, ast.ClassDef)]
                inner = [node.arg for node in nodes_of(path, ast.arg)]
                inner += [node.id for node in nodes_of(path, ast.Name)
                          if isinstance(node.ctx, ast.Store)]
                self.assertEqual(set(outer) & set(inner), set())


def classes_of_package():
    """Return the dict of the classes of all files."""
    return {node.name: node for path in FILES for node in nodes_of(path, ast.ClassDef)}


def methods_of(node):
    """Return the names of the methods and properties of a class."""
    return {row.name for row in node.body if isinstance(row, ast.FunctionDef)}


def attributes_of(node):
    """Return the names of the attributes that a class assigns to its objects."""
    return {row.attr for row in ast.walk(node)
            if isinstance(row, ast.Attribute) and isinstance(row.ctx, ast.Store)}


class Objects(unittest.TestCase):
    """The rules about methods and attributes."""

    def test_methods_that_are_called(self):
        own = set().union(*[methods_of(node) for node in classes_of_package().values()])
        for path in FILES:
            with self.subTest(path.name):
                for node in nodes_of(path, ast.Call):
                    if isinstance(node.func, ast.Attribute):
                        self.assertIn(node.func.attr, BUILTIN_METHODS | own)

    def test_no_name_is_a_method_and_an_attribute(self):
        nodes = classes_of_package().values()
        methods = set().union(*[methods_of(node) for node in nodes])
        attributes = set().union(*[attributes_of(node) for node in nodes])
        self.assertEqual(methods & attributes, set())

    def test_names_of_methods_and_attributes(self):
        for node in classes_of_package().values():
            for name in methods_of(node) | attributes_of(node):
                for value in BUILTIN_VALUES:
                    # The interface asks for a method that sets have, too.
                    if not name.startswith("__") and name != "difference":
                        self.assertFalse(hasattr(value, name), name)

    def test_attributes_that_are_read_are_assigned(self):
        nodes = classes_of_package().values()
        known = set().union(*[methods_of(node) | attributes_of(node) for node in nodes])
        known |= {"MOST", "__class__", "__name__", "setter"} | BUILTIN_METHODS
        for path in FILES:
            for node in nodes_of(path, ast.Attribute):
                self.assertIn(node.attr, known)

    def test_decorators(self):
        for path in FILES:
            for node in nodes_of(path, ast.FunctionDef, ast.ClassDef):
                for row in node.decorator_list:
                    self.assertRegex(ast.unparse(row), r"\A(property|classmethod|\w+\.setter)\Z")

    def test_stars_in_calls_stand_before_names(self):
        for path in FILES:
            for node in nodes_of(path, ast.Call):
                for row in node.args:
                    if isinstance(row, ast.Starred):
                        self.assertIsInstance(row.value, (ast.Name, ast.Attribute))
                self.assertNotIn(None, [row.arg for row in node.keywords])

    def test_what_is_iterated_on_the_spot(self):
        for path in FILES:
            for node in nodes_of(path, ast.Assign, ast.Return):
                if isinstance(node.value, ast.Call) and isinstance(node.value.func, ast.Name):
                    self.assertNotIn(node.value.func.id, ("zip", "enumerate", "reversed", "range",
                                                          "map", "filter", "iter"))


class AllFiles(unittest.TestCase):
    def test_no_two_files_import_from_each_other(self):
        needed = {path.stem: [node.module.split(".")[-1]
                              for node in nodes_of(path, ast.ImportFrom)] for path in FILES}
        done = []
        while len(done) < len(needed):
            ready = [name for name in needed if name not in done
                     and all(other in done or other not in needed for other in needed[name])]
            self.assertTrue(ready, "some files import from each other")
            done += ready


if __name__ == "__main__":
    unittest.main()
