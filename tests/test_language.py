"""The rules of the language that a small script can see, for each file of the package."""

import ast
import builtins
import os
import re
import unittest
import warnings

PACKAGE = "risingread"
FOLDER = os.path.join(os.path.dirname(os.path.dirname(os.path.abspath(__file__))), PACKAGE)
LIBRARY = {
    "heapq": {"heappush", "heappop", "heapify", "heapreplace", "heappushpop"},
    "math": {"gcd", "lcm", "isqrt", "comb", "perm", "factorial"},
    "itertools": {"product", "combinations", "permutations", "chain", "accumulate", "pairwise", "islice",
                  "zip_longest"},
    "collections": {"defaultdict"},
    "__future__": {"annotations"},
}
BUILTINS = set("""
    len range enumerate zip min max sum abs sorted reversed int str bool bytes list tuple dict set frozenset
    isinstance ord repr any all divmod pow getattr hasattr setattr Exception ValueError TypeError KeyError
    IndexError LookupError ZeroDivisionError ArithmeticError OverflowError RuntimeError NotImplementedError
    AttributeError StopIteration NotImplemented iter next map object float super property staticmethod classmethod
""".split())
SPECIAL = set("""
    __init__ __eq__ __repr__ __str__ __len__ __enter__ __exit__ __call__ __iter__ __lt__ __le__ __gt__ __ge__
    __ne__ __add__ __sub__ __mul__ __floordiv__ __mod__ __pow__ __and__ __or__ __xor__ __lshift__ __rshift__
    __radd__ __rsub__ __rmul__ __rfloordiv__ __rmod__ __rand__ __ror__ __rxor__ __rlshift__ __rrshift__
    __iadd__ __isub__ __imul__ __ifloordiv__ __imod__ __ipow__ __iand__ __ior__ __ixor__ __ilshift__ __irshift__
    __neg__ __pos__ __invert__ __abs__ __bool__ __contains__ __getitem__ __setitem__ __slots__ __all__
    __version__ __name__ __class__
""".split())
NOWHERE = set("register mro elements open input law version_info with_traceback add_note".split())
NO_NAMES = set("""
    attrgetter breakpoint builtins compile copyright credits delattr dir eval exec exit gc globals help id
    importlib license locals methodcaller os quit type vars
""".split())
NO_WORDS = """
    type typing typing_extensions enum Enum IntEnum StrEnum Flag IntFlag Generic Protocol ABC ABCMeta namedtuple
    NamedTuple TypedDict TYPE_CHECKING abstractmethod
""".split()
NO_PARTS = ["dataclass", "overload", "contextmanager"]
FRAMES = re.compile("(f|tb|co|gi|cr|ag)_[a-z]+")
BARRED_STARTS = (
    "_wall", "_pe_", "_dcw_", "_enum_", "_cm_", "_twin_re_", "_lay_", "_law_", "_stub_", "_sre", "_WallAttr",
)
BARRED_NAMES = re.compile("_(cold|tuplegetter|outside|record|written_out|member_names)[0-9_]*")
BARRED_FILES = re.compile("law_.*|tests?|testing|test_.*|site|conftest|sitecustomize|usercustomize")


def files():
    """The paths of the files of the package, ascending."""
    found = []
    for folder, folders, names in os.walk(FOLDER):
        folders[:] = [name for name in folders if name != "__pycache__"]
        found.extend(os.path.join(folder, name) for name in names)
    return sorted(found)


def read(path):
    """The text of a file."""
    with open(path, encoding="utf-8", newline="") as file:
        return file.read()


def called(path):
    """The name of the module, without its ending."""
    return os.path.basename(path)[:-len(".py")]


def modules():
    """The full names of the modules of the package."""
    found = []
    for path in files():
        inner = os.path.relpath(path, FOLDER)[:-len(".py")]
        found.append(PACKAGE + "." + inner.replace(os.sep, "."))
    return found


def bound_in(node):
    """The names that this part of a file gives to something, without attributes."""
    if isinstance(node, ast.Name) and not isinstance(node.ctx, ast.Load):
        return [node.id]
    if isinstance(node, (ast.FunctionDef, ast.ClassDef)):
        return [node.name]
    if isinstance(node, ast.arg):
        return [node.arg]
    if isinstance(node, ast.alias):
        return [node.asname or node.name]
    if isinstance(node, (ast.ExceptHandler, ast.MatchAs, ast.MatchStar)):
        return [node.name] if node.name else []
    return []


def names_in(node):
    """All names that stand in this part of a file."""
    if isinstance(node, ast.Name):
        return [node.id]
    if isinstance(node, ast.Attribute):
        return [node.attr]
    if isinstance(node, ast.keyword):
        return [node.arg] if node.arg else []
    return bound_in(node)


def shown_strings(tree):
    """The strings of a file that are no docstrings."""
    hidden = [node.value for node in ast.walk(tree) if isinstance(node, ast.Expr)]
    constants = [node for node in ast.walk(tree) if isinstance(node, ast.Constant)]
    return [node.value for node in constants if isinstance(node.value, str) and node not in hidden]


class TestLanguage(unittest.TestCase):

    def setUp(self):
        self.trees = {path: ast.parse(read(path)) for path in files()}

    def each(self):
        """Yield each path, its tree and each part of the tree."""
        for path, tree in self.trees.items():
            for node in ast.walk(tree):
                yield path, tree, node

    def place(self, path, node):
        """How a fault names its place."""
        return f"{os.path.relpath(path, FOLDER)}:{getattr(node, 'lineno', 1)}"

    def test_l1_and_l14_files(self):
        self.assertIn(os.path.join(FOLDER, "__init__.py"), files())
        self.assertLessEqual(len(files()), 100)
        for path in files():
            self.assertRegex(os.path.basename(path), r"\A([a-z][a-z0-9_]*|__init__|__main__)\.py\Z")
            self.assertNotIn(called(path), vars(builtins), path)
            self.assertNotIn(called(path), sorted(NOWHERE | NO_NAMES) + NO_WORDS)
            self.assertIsNone(BARRED_FILES.fullmatch(called(path)), path)
            self.assertTrue(os.path.exists(os.path.join(os.path.dirname(path), "__init__.py")), path)

    def test_l2_imports(self):
        for path, tree, node in self.each():
            if isinstance(node, ast.Import):
                self.assertEqual((called(path), [name.name for name in node.names]), ("__main__", ["sys"]))
            if isinstance(node, ast.ImportFrom):
                self.assert_import(self.place(path, node), node)

    def assert_import(self, place, node):
        """Assert that an import names what may be imported, and where it is."""
        self.assertEqual(node.level, 0, place)
        for name in node.names:
            if node.module in LIBRARY:
                self.assertIn(name.name, LIBRARY[node.module], place)
                self.assertIsNone(name.asname, place)
            else:
                self.assertIn(node.module, modules(), place)
                self.assertNotEqual(node.module, PACKAGE + ".__main__", place)
                self.assertNotEqual(name.name, "*", place)

    def test_l2_and_l3_what_stands_at_module_level(self):
        for path, tree in self.trees.items():
            body = tree.body[1:] if ast.get_docstring(tree) else tree.body
            kinds = [isinstance(node, (ast.Import, ast.ImportFrom)) for node in body]
            self.assertEqual(kinds, sorted(kinds, reverse=True), path)
            for node in body[sum(kinds):]:
                if called(path) != "__main__" or not isinstance(node, ast.If):
                    self.assertIsInstance(node, (ast.FunctionDef, ast.ClassDef, ast.Assign, ast.AnnAssign),
                                          self.place(path, node))

    def test_l4_decorators(self):
        for path, tree, node in self.each():
            if isinstance(node, ast.ClassDef):
                self.assertEqual(node.decorator_list, [], self.place(path, node))
            methods = node.body if isinstance(node, ast.ClassDef) else []
            for inner in ast.iter_child_nodes(node):
                if isinstance(inner, ast.FunctionDef) and inner.decorator_list:
                    self.assertIn(inner, methods, self.place(path, inner))
                    self.assertEqual(len(inner.decorator_list), 1, self.place(path, inner))
                    self.assertRegex(ast.unparse(inner.decorator_list[0]),
                                     r"\A(property|staticmethod|classmethod|[a-z_]+\.setter)\Z")

    def test_l6_and_l7_what_is_not_used(self):
        for path, tree, node in self.each():
            barred = (ast.Global, ast.AsyncFunctionDef, ast.Await, ast.AsyncFor, ast.AsyncWith, ast.Div)
            self.assertNotIsInstance(node, barred, self.place(path, node))
            if isinstance(node, ast.Constant):
                self.assertNotIsInstance(node.value, (float, complex), self.place(path, node))

    def test_l8_builtins(self):
        for path, tree, node in self.each():
            allowed = BUILTINS | {"print"} if called(path) == "__main__" else BUILTINS
            if isinstance(node, ast.Name) and node.id in vars(builtins):
                self.assertIn(node.id, allowed | {"__name__"}, self.place(path, node))
            for name in bound_in(node):
                if not name.startswith("__"):
                    self.assertNotIn(name, vars(builtins), self.place(path, node))

    def test_l10_sizes(self):
        for path, tree, node in self.each():
            if isinstance(node, ast.FunctionDef):
                first = min([node.lineno] + [inner.lineno for inner in node.decorator_list])
                self.assertLessEqual(node.end_lineno - first + 1, 40, self.place(path, node))
        for path in files():
            lines = read(path).splitlines()
            self.assertLessEqual(len(lines), 399, path)
            self.assertLessEqual(max(len(line) for line in lines), 120, path)

    def test_l12_names(self):
        for path, tree, node in self.each():
            for name in names_in(node):
                if name.startswith("__") or isinstance(node, ast.alias):
                    self.assertTrue(isinstance(node, ast.alias) or name in SPECIAL, (self.place(path, node), name))
                    continue
                self.assertRegex(name, r"\A(_|_?[A-Za-z][A-Za-z0-9_]*)\Z", self.place(path, node))
                self.assertFalse(name.startswith(BARRED_STARTS), self.place(path, node))
                self.assertIsNone(BARRED_NAMES.fullmatch(name), self.place(path, node))
            if isinstance(node, ast.ClassDef):
                self.assertRegex(node.name, r"\A[A-Za-z]", self.place(path, node))
            if isinstance(node, ast.Name) and node.id == "_":
                self.assertIsInstance(node.ctx, ast.Store, self.place(path, node))
        for path in files():
            self.assertNotRegex(read(path), r"\b(_wall|_WallAttr)\b", path)

    def test_l14_characters(self):
        for path in files():
            self.assertRegex(read(path), r"\A[ -~\n]*\Z", path)

    def test_l17_names_and_words(self):
        for path, tree, node in self.each():
            for name in names_in(node):
                self.assertNotIn(name, NOWHERE, self.place(path, node))
                self.assertIsNone(FRAMES.fullmatch(name), self.place(path, node))
            for name in bound_in(node):
                self.assertNotIn(name, NO_NAMES, self.place(path, node))
            for name in names_in(node):
                self.assertNotIn(name, NO_WORDS, self.place(path, node))
                for part in NO_PARTS:
                    self.assertNotIn(part, name, self.place(path, node))
        for path, tree in self.trees.items():
            for text in shown_strings(tree):
                for word in re.findall("[A-Za-z0-9_]+", text):
                    self.assertNotIn(word, NO_WORDS, (path, text))
            self.assertNotRegex(read(path), r"\(type\)|Meta|metaclass=", path)

    def test_l27_strings_and_warnings(self):
        for path, tree, node in self.each():
            if isinstance(node, ast.Constant) and isinstance(node.value, str):
                self.assertNotIn("%", node.value, self.place(path, node))
                self.assertRegex(node.value, r"\A[ -~\n]*\Z", self.place(path, node))
        with warnings.catch_warnings():
            warnings.simplefilter("error")
            for path in files():
                compile(read(path), path, "exec")


if __name__ == "__main__":
    unittest.main()
