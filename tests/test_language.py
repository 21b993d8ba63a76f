"""The rules of the language subset that can be read off the files: the rest is up to the reader."""

import ast
import builtins
import re
import unittest
from pathlib import Path

PACKAGE = Path(__file__).resolve().parent.parent / "dotmoor"
FILES = sorted(PACKAGE.rglob("*.py"))

BUILTINS = """len range enumerate zip min max sum abs sorted reversed int str bool bytes list tuple dict set frozenset
isinstance ord repr any all divmod Exception ValueError TypeError KeyError IndexError LookupError ZeroDivisionError
ArithmeticError OverflowError RuntimeError NotImplementedError AttributeError StopIteration NotImplemented iter next
super property staticmethod classmethod object""".split()
BARRED_WORDS = """type typing typing_extensions enum Enum IntEnum StrEnum Flag IntFlag Generic Protocol ABC ABCMeta
namedtuple NamedTuple TypedDict TYPE_CHECKING abstractmethod""".split()
PLAIN_METHODS = """append extend get pop setdefault items values join split removeprefix isascii isdigit add""".split()
BARRED_ANYWHERE = ("dataclass", "overload", "contextmanager")
NAME = r"^([A-Za-z][A-Za-z0-9_]*|__[a-z]+__)$"


def imported(file):
    """The pairs (file, name) of what a file imports."""
    found = [node for node in ast.parse(file.read_text(encoding="utf-8")).body if isinstance(node, ast.ImportFrom)]
    return [(PACKAGE / (node.module.split(".")[-1] + ".py"), alias.name) for node in found for alias in node.names]


def defined(file):
    """The names that a file defines itself at its top level."""
    body = ast.parse(file.read_text(encoding="utf-8")).body
    found = {node.name for node in body if isinstance(node, (ast.FunctionDef, ast.ClassDef))}
    return found | {target.id for node in body if isinstance(node, ast.Assign) for target in node.targets}


class Folder(unittest.TestCase):
    def test_it_holds_source_files_alone(self):
        names = [file.name for file in PACKAGE.iterdir() if file.name != "__pycache__"]
        self.assertIn("__init__.py", names)
        for name in names:
            self.assertRegex(name, r"^([a-z][a-z0-9_]*|__init__|__main__)\.py$")


class Files(unittest.TestCase):
    def each(self, check):
        for file in FILES:
            text = file.read_text(encoding="utf-8")
            with self.subTest(file.name):
                check(text, ast.parse(text))

    def test_signs_and_sizes(self):
        self.each(self.signs_and_sizes)

    def signs_and_sizes(self, text, tree):
        self.assertRegex(text, r"^[ -~\n]*$")
        self.assertLessEqual(len(text.splitlines()), 399)
        self.assertLessEqual(max(map(len, text.splitlines())), 120)
        for node in ast.walk(tree):
            if isinstance(node, ast.FunctionDef):
                self.assertLessEqual(node.end_lineno - node.lineno + 1, 40, node.name)

    def test_words(self):
        self.each(self.words)

    def words(self, text, tree):
        self.assertEqual(set(re.findall(r"\w+", text)) & set(BARRED_WORDS), set())
        for word in BARRED_ANYWHERE:
            self.assertNotIn(word, text)

    def test_imports_are_the_package_s_own(self):
        self.each(self.imports)

    def imports(self, text, tree):
        for node in ast.walk(tree):
            self.assertNotIsInstance(node, ast.Import)
            if isinstance(node, ast.ImportFrom):
                self.assertIn(node, tree.body)
                self.assertEqual(node.level, 0)
                package, file = node.module.split(".")
                self.assertEqual(package, "dotmoor")
                self.assertTrue((PACKAGE / (file + ".py")).exists(), file)

    def test_imports_name_the_file_that_defines(self):
        for file in FILES:
            for source, name in imported(file):
                with self.subTest(file=file.name, name=name):
                    self.assertIn(name, defined(source))

    def test_no_file_imports_itself_by_way_of_others(self):
        for file in FILES:
            reached, left = set(), [file]
            while left:
                sources = {source for source, name in imported(left.pop())} - reached
                reached |= sources
                left += sources
            with self.subTest(file.name):
                self.assertNotIn(file, reached)

    def test_nothing_within_a_function_has_the_name_of_an_import_or_a_class(self):
        for file in FILES:
            tree = ast.parse(file.read_text(encoding="utf-8"))
            taken = {name for source, name in imported(file)}
            taken |= {node.name for node in tree.body if isinstance(node, ast.ClassDef)}
            inner = {node.arg for node in ast.walk(tree) if isinstance(node, ast.arg)}
            inner |= {node.id for node in ast.walk(tree) if isinstance(node, ast.Name)
                      and isinstance(node.ctx, ast.Store)}
            with self.subTest(file.name):
                self.assertEqual(taken & inner, set())

    def test_no_name_is_a_method_and_an_attribute(self):
        methods, given, read = set(), set(), set()
        for file in FILES:
            tree = ast.parse(file.read_text(encoding="utf-8"))
            for node in ast.walk(tree):
                if isinstance(node, ast.ClassDef):
                    methods |= {inner.name for inner in node.body if isinstance(inner, ast.FunctionDef)}
                if isinstance(node, ast.Attribute):
                    (given if isinstance(node.ctx, ast.Store) else read).add(node.attr)
        self.assertEqual(methods & given, set())
        self.assertEqual(methods & (set(dir(str)) | set(dir(int)) | set(dir(list)) | set(dir(dict)) | set(dir(set)))
                         - {"__init__", "__eq__", "__len__", "__repr__"}, set())
        self.assertEqual(read - methods - given - set(PLAIN_METHODS) - {"__init__"}, set())

    def test_lists_rather_than_generators(self):
        self.each(self.lists)

    def lists(self, text, tree):
        for node in ast.walk(tree):
            self.assertNotIsInstance(node, (ast.GeneratorExp, ast.Yield, ast.YieldFrom, ast.Global))
            if isinstance(node, ast.Attribute):
                self.assertNotEqual(node.attr, "sort")

    def test_names(self):
        self.each(self.names)

    def names(self, text, tree):
        for node in ast.walk(tree):
            for kind in ("name", "id", "arg", "attr"):
                name = getattr(node, kind, None)
                if isinstance(name, str):
                    self.assertRegex(name, NAME)

    def test_whole_numbers_and_plain_texts(self):
        self.each(self.constants)

    def constants(self, text, tree):
        for node in ast.walk(tree):
            self.assertNotIsInstance(node, ast.Div)
            if isinstance(node, ast.Constant):
                self.assertNotIsInstance(node.value, (float, complex))
                if isinstance(node.value, str):
                    self.assertNotIn("%", node.value)

    def test_builtins(self):
        self.each(self.builtins)

    def builtins(self, text, tree):
        known = set(dir(builtins))
        for node in ast.walk(tree):
            if isinstance(node, ast.Name) and node.id in known:
                self.assertIn(node.id, BUILTINS)
                self.assertIsInstance(node.ctx, ast.Load)
            if isinstance(node, ast.arg):
                self.assertNotIn(node.arg, known)


if __name__ == "__main__":
    unittest.main()
