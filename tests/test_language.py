"""The part of Python that the package keeps to, as far as a walk through its files can see it."""

import ast
import builtins
import pathlib
import re
import unittest

import skeinwood

FOLDER = pathlib.Path(skeinwood.__file__).parent
BUILTINS = """len range enumerate zip min max sum abs sorted reversed int str bool list tuple dict set frozenset
isinstance ord repr any all divmod Exception ValueError TypeError KeyError IndexError LookupError ZeroDivisionError
ArithmeticError OverflowError RuntimeError NotImplementedError AttributeError StopIteration""".split()
TWO_UNDERSCORES = ["__init__", "__eq__", "__repr__", "__str__", "__len__"]
WORDS = """type typing typing_extensions enum Enum IntEnum StrEnum Flag IntFlag Generic Protocol ABC ABCMeta namedtuple
NamedTuple TypedDict TYPE_CHECKING abstractmethod""".split()
PARTS = ["dataclass", "overload", "contextmanager"]
NODES = (
    ast.Import, ast.With, ast.Match, ast.Delete, ast.Global, ast.Nonlocal, ast.Assert, ast.Yield, ast.YieldFrom,
    ast.AsyncFunctionDef, ast.AsyncFor, ast.AsyncWith, ast.Await, ast.Set, ast.SetComp, ast.DictComp, ast.GeneratorExp,
    ast.NamedExpr, ast.Starred, ast.Div, ast.AnnAssign,
)


def files():
    return sorted(path for path in FOLDER.iterdir() if path.name != "__pycache__")


def bound_names(tree):
    for node in ast.walk(tree):
        if isinstance(node, (ast.FunctionDef, ast.ClassDef)):
            yield node.name
        elif isinstance(node, ast.arg):
            yield node.arg
        elif isinstance(node, ast.Name) and isinstance(node.ctx, ast.Store):
            yield node.id
        elif isinstance(node, ast.Attribute):
            yield node.attr


class LanguageTest(unittest.TestCase):
    def each(self):
        for path in files():
            with self.subTest(path.name):
                text = path.read_bytes().decode("ascii")
                yield text, ast.parse(text)

    def test_files(self):
        self.assertEqual(FOLDER.name, "skeinwood")
        self.assertIn("__init__.py", [path.name for path in files()])
        for path in files():
            self.assertRegex(path.name, r"^([a-z][a-z0-9_]*|__init__|__main__)\.py$")
            self.assertNotRegex(path.name, r"^(test|site|conftest)")

    def test_signs_rows_and_words(self):
        for text, tree in self.each():
            self.assertRegex(text, r"\A[ -~\n]*\Z")
            rows = text.split("\n")
            self.assertLessEqual(len(rows), 401)
            self.assertLessEqual(max(len(row) for row in rows), 120)
            words = re.findall(r"\w+", text)
            self.assertEqual([word for word in words if word in WORDS], [])
            self.assertEqual([part for part in PARTS if part in text], [])

    def test_nodes(self):
        for text, tree in self.each():
            for node in ast.walk(tree):
                self.assertNotIsInstance(node, NODES)
                if isinstance(node, ast.Constant):
                    self.assertNotIsInstance(node.value, (float, bytes, complex))
                if isinstance(node, (ast.For, ast.While)):
                    self.assertEqual(node.orelse, [])
                if isinstance(node, ast.Try):
                    self.assertEqual(node.finalbody, [])
                if isinstance(node, ast.Assign):
                    self.assertEqual(len(node.targets), 1)

    def test_imports_are_of_the_package_alone_and_never_in_a_ring(self):
        draws = {}
        for path in files():
            tree = ast.parse(path.read_text())
            rows = [node for node in ast.walk(tree) if isinstance(node, ast.ImportFrom)]
            self.assertEqual([row for row in rows if row not in tree.body or row.level], [])
            draws["skeinwood." + path.stem] = {row.module for row in rows}
        self.assertEqual(draws.pop("skeinwood.__init__"), set())
        while draws:
            free = [name for name in draws if not draws[name] & set(draws)]
            self.assertNotEqual(free, [])
            for name in free:
                for drawn in draws.pop(name):
                    self.assertTrue((FOLDER / (drawn.removeprefix("skeinwood.") + ".py")).is_file(), drawn)

    def test_functions_and_classes(self):
        for text, tree in self.each():
            for node in ast.walk(tree):
                if isinstance(node, ast.FunctionDef):
                    self.assertLessEqual(node.end_lineno - node.lineno + 1, 40, node.name)
                    self.assertEqual(node.decorator_list, [])
                    taken = node.args
                    self.assertFalse(taken.vararg or taken.kwarg or taken.kwonlyargs or taken.posonlyargs)
                if isinstance(node, ast.ClassDef):
                    self.assertIn(node, tree.body)
                    self.assertLessEqual(len(node.bases), 1)
                    self.assertEqual(node.decorator_list + node.keywords, [])

    def test_names(self):
        for text, tree in self.each():
            for name in bound_names(tree):
                if name not in TWO_UNDERSCORES:
                    self.assertRegex(name, r"^[A-Za-z]\w*$")
            for node in ast.walk(tree):
                if isinstance(node, ast.Name):
                    self.assertTrue(node.id in BUILTINS or not hasattr(builtins, node.id), node.id)
                    self.assertFalse(isinstance(node.ctx, ast.Store) and node.id in BUILTINS, node.id)
                if isinstance(node, ast.arg):
                    self.assertFalse(hasattr(builtins, node.arg), node.arg)

    def test_no_name_is_a_method_here_and_a_value_there(self):
        methods, kept = set(), set()
        for text, tree in self.each():
            for node in ast.walk(tree):
                if isinstance(node, ast.ClassDef):
                    methods |= {part.name for part in node.body if isinstance(part, ast.FunctionDef)}
                if isinstance(node, ast.Attribute) and isinstance(node.ctx, ast.Store):
                    kept.add(node.attr)
        self.assertEqual(methods & kept, set())


if __name__ == "__main__":
    unittest.main()
