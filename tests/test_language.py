"""The rules of the language that can be seen in the files: what the package is written with."""

import ast
import builtins
import pathlib
import re
import unittest

PACKAGE = pathlib.Path(__file__).resolve().parent.parent / "samphire"
LIBRARY = {
    "heapq": {"heappush", "heappop", "heapify", "heapreplace", "heappushpop"},
    "math": {"gcd", "lcm", "isqrt", "comb", "perm", "factorial"},
    "itertools": {
        "product", "combinations", "permutations", "chain", "accumulate", "pairwise", "islice", "zip_longest",
    },
    "collections": {"defaultdict", "deque"},
}
BUILTINS = set(
    "len range enumerate zip min max sum abs sorted reversed int str bool bytes list tuple dict set frozenset"
    " isinstance ord repr any all divmod pow iter next map Exception ValueError TypeError KeyError IndexError"
    " LookupError ZeroDivisionError ArithmeticError OverflowError RuntimeError NotImplementedError AttributeError"
    " StopIteration NotImplemented super property staticmethod classmethod".split()
)
# The examples of other tests are shown as Python's prompt does it, which gives `_` to the builtins.
PYTHONS_NAMES = set(vars(builtins)) - {"_"}
BARRED_NAMES = set(
    "register mro elements open input law version_info with_traceback add_note attrgetter breakpoint builtins compile"
    " copyright credits delattr dir eval exec exit gc getattr globals hasattr help id importlib license locals"
    " methodcaller os quit setattr type vars sys".split()
)
BARRED_WORDS = re.compile(
    r"\b(typing|typing_extensions|enum|Enum|IntEnum|StrEnum|Flag|IntFlag|Generic|Protocol|ABC|ABCMeta|namedtuple"
    r"|NamedTuple|TypedDict|TYPE_CHECKING|abstractmethod|_wall|_WallAttr)\b|dataclass|overload|contextmanager"
)
DOUBLE_UNDERSCORE = {"__init__"}
NODES_LEFT_OUT = (
    ast.AsyncFunctionDef, ast.AsyncFor, ast.AsyncWith, ast.Await, ast.Div, ast.Global, ast.Import, ast.Set, ast.AnnAssign,
)


def files():
    return sorted(PACKAGE.glob("**/*.py"))


def trees():
    return [(path, ast.parse(path.read_text("utf-8"))) for path in files()]


def names_bound(tree):
    """All names that a file gives to something: variables, parameters, functions, classes, attributes."""
    found = []
    for node in ast.walk(tree):
        if isinstance(node, (ast.FunctionDef, ast.ClassDef)):
            found.append(node.name)
        elif isinstance(node, ast.arg):
            found.append(node.arg)
        elif isinstance(node, ast.Name) and not isinstance(node.ctx, ast.Load):
            found.append(node.id)
        elif isinstance(node, ast.ExceptHandler) and node.name:
            found.append(node.name)
    return found


def docstrings(tree):
    holders = (ast.Module, ast.ClassDef, ast.FunctionDef)
    return [ast.get_docstring(node, clean=False) for node in ast.walk(tree) if isinstance(node, holders)]


class LanguageTest(unittest.TestCase):
    def test_files(self):
        for path in PACKAGE.rglob("*"):
            if "__pycache__" not in path.parts:
                with self.subTest(path.name):
                    self.assertTrue(path.is_file() and path.suffix == ".py" and path.name == path.name.lower())
        self.assertLessEqual(len(files()), 100)

    def test_sizes_and_characters(self):
        for path in files():
            text = path.read_text("utf-8")
            lines = text.split("\n")
            with self.subTest(path.name):
                self.assertLessEqual(len(lines), 399)
                self.assertLessEqual(max(len(line) for line in lines), 120)
                self.assertTrue(all(sign == "\n" or " " <= sign <= "~" for sign in text))

    def test_sizes_of_functions(self):
        for path, tree in trees():
            for node in ast.walk(tree):
                if isinstance(node, ast.FunctionDef):
                    with self.subTest(path.name, function=node.name):
                        self.assertLessEqual(node.end_lineno - node.lineno + 1, 40)
                        self.assertTrue(ast.get_docstring(node) or node.name == "__init__")

    def test_module_level(self):
        allowed = (ast.ImportFrom, ast.FunctionDef, ast.ClassDef, ast.Assign)
        for path, tree in trees():
            imports_end = False
            for place, node in enumerate(tree.body):
                with self.subTest(path.name, line=node.lineno):
                    if place == 0:
                        self.assertTrue(ast.get_docstring(tree))
                    else:
                        self.assertIsInstance(node, allowed)
                        self.assertFalse(isinstance(node, ast.ImportFrom) and imports_end)
                        imports_end = imports_end or not isinstance(node, ast.ImportFrom)

    def test_imports_name_the_file_that_defines(self):
        for path, tree in trees():
            for node in ast.walk(tree):
                if isinstance(node, ast.ImportFrom):
                    for alias in node.names:
                        with self.subTest(path.name, name=alias.name):
                            self.assertEqual((node.level, alias.asname), (0, None))
                            if node.module in LIBRARY:
                                self.assertIn(alias.name, LIBRARY[node.module])
                            else:
                                self.assertIn(alias.name, self.defined_in(node.module))

    def defined_in(self, module):
        package, name = module.split(".")
        self.assertEqual(package, "samphire")
        tree = ast.parse((PACKAGE / (name + ".py")).read_text("utf-8"))
        targets = [node.targets[0].id for node in tree.body if isinstance(node, ast.Assign)]
        return targets + [node.name for node in tree.body if isinstance(node, (ast.FunctionDef, ast.ClassDef))]

    def test_no_two_files_import_from_each_other(self):
        reached = {}
        for path, tree in trees():
            modules = [node.module for node in tree.body if isinstance(node, ast.ImportFrom)]
            reached["samphire." + path.stem] = {module for module in modules if module.startswith("samphire.")}
        for _ in reached:
            for modules in reached.values():
                modules.update(*[reached[module] for module in list(modules)])
        for module, modules in reached.items():
            self.assertNotIn(module, modules)

    def test_statements_and_signs(self):
        for path, tree in trees():
            for node in ast.walk(tree):
                with self.subTest(path.name, line=getattr(node, "lineno", 0)):
                    self.assertNotIsInstance(node, NODES_LEFT_OUT)
                    if isinstance(node, ast.Constant):
                        self.assertNotIsInstance(node.value, (float, complex))
                    if isinstance(node, (ast.FunctionDef, ast.ClassDef)):
                        told = [decorator.id for decorator in node.decorator_list]
                        self.assertIn(told, ([], ["classmethod"], ["staticmethod"]))
                    if isinstance(node, ast.Compare) and {type(op) for op in node.ops} & {ast.Is, ast.IsNot}:
                        self.assertIn(node.comparators[-1].value, (None, True, False))

    def test_names(self):
        for path, tree in trees():
            bound = set(names_bound(tree))
            with self.subTest(path.name):
                self.assertEqual(bound & BARRED_NAMES, set())
                self.assertEqual(bound & PYTHONS_NAMES, set())
                self.assertEqual({name for name in bound if name.startswith("__")} - DOUBLE_UNDERSCORE, set())
            used = {node.id for node in ast.walk(tree) if isinstance(node, ast.Name)}
            with self.subTest(path.name):
                self.assertEqual((used & PYTHONS_NAMES) - BUILTINS, set())

    def test_names_of_imports_and_classes_mean_nothing_else(self):
        for path, tree in trees():
            kept = {alias.name for node in tree.body if isinstance(node, ast.ImportFrom) for alias in node.names}
            kept.update(node.name for node in tree.body if isinstance(node, ast.ClassDef))
            variables = {node.arg for node in ast.walk(tree) if isinstance(node, ast.arg)}
            for node in ast.walk(tree):
                if isinstance(node, ast.Name) and not isinstance(node.ctx, ast.Load):
                    variables.add(node.id)
            with self.subTest(path.name):
                self.assertEqual(kept & variables, set())

    def test_words(self):
        for path, tree in trees():
            told = [text for text in docstrings(tree) if text]
            for node in ast.walk(tree):
                words = []
                if isinstance(node, ast.Constant) and isinstance(node.value, str) and node.value not in told:
                    words.append(node.value)
                if isinstance(node, ast.Name):
                    words.append(node.id)
                if isinstance(node, ast.Attribute):
                    words.append(node.attr)
                for word in words:
                    with self.subTest(path.name, word=word):
                        self.assertIsNone(BARRED_WORDS.search(word))
                        self.assertNotIn("%", word)
                        self.assertIsNone(re.search(r"\btype\b", word))

    def test_the_package_binds_no_names(self):
        tree = ast.parse((PACKAGE / "__init__.py").read_text("utf-8"))
        self.assertEqual(len(tree.body), 1)
        self.assertTrue(ast.get_docstring(tree))


if __name__ == "__main__":
    unittest.main()
