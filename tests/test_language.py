"""The part of Python that the package keeps to, as far as a walk through its files can see it."""

import ast
import builtins
import pathlib
import re
import unittest

import skeinwood

FOLDER = pathlib.Path(skeinwood.__file__).parent
BUILTINS = """len range enumerate zip min max sum abs sorted reversed int str bool list tuple dict set frozenset
isinstance ord repr any all divmod Exception ValueError TypeError KeyError IndexError LookupError ZeroDivisionError
ArithmeticError OverflowError RuntimeError NotImplementedError AttributeError StopIteration""".split()
TWO_UNDERSCORES = ["__init__", "__eq__", "__repr__", "__str__", "__len__"]
WORDS = """type typing typing_extensions enum Enum IntEnum StrEnum Flag IntFlag Generic Protocol ABC ABCMeta namedtuple
NamedTuple TypedDict TYPE_CHECKING abstractmethod""".split()
PARTS = ["dataclass", "overload", "contextmanager"]
METHODS = """append clear copy count endswith extend find get index insert isalnum isalpha isdigit islower isspace
isupper items join keys ljust lower lstrip partition pop remove replace reverse rfind rjust rpartition rsplit rstrip
setdefault split splitlines startswith strip update upper values zfill bit_length""".split()
UNUSED = """register mro elements open input version_info with_traceback add_note format format_map attrgetter
methodcaller os gc sys importlib""".split()
WALKED = ["zip", "enumerate", "reversed", "range", "items", "keys", "values"]
WALKERS = ["list", "tuple", "dict", "sorted", "sum", "any", "all", "enumerate", "zip", "min", "max", "join"]
NODES = (
    ast.Import, ast.With, ast.Match, ast.Delete, ast.Global, ast.Nonlocal, ast.Assert, ast.Yield, ast.YieldFrom,
    ast.AsyncFunctionDef, ast.AsyncFor, ast.AsyncWith, ast.Await, ast.Set, ast.SetComp, ast.DictComp, ast.GeneratorExp,
    ast.NamedExpr, ast.Starred, ast.Div, ast.AnnAssign,
)


def files():
    return sorted(path for path in FOLDER.iterdir() if path.name != "__pycache__")


def bound_names(tree):
    for node in ast.walk(tree):
        if isinstance(node, (ast.FunctionDef, ast.ClassDef)):
            yield node.name
        elif isinstance(node, ast.arg):
            yield node.arg
        elif isinstance(node, ast.Name) and isinstance(node.ctx, ast.Store):
            yield node.id
        elif isinstance(node, ast.Attribute):
            yield node.attr


def called(node):
    """The name by which a call calls, None where node is no call of a name or method."""
    if not isinstance(node, ast.Call):
        return None
    return node.func.attr if isinstance(node.func, ast.Attribute) else getattr(node.func, "id", None)


def parents_of(tree):
    return {child: node for node in ast.walk(tree) for child in ast.iter_child_nodes(node)}


class LanguageTest(unittest.TestCase):
    def each(self):
        for path in files():
            with self.subTest(path.name):
                text = path.read_bytes().decode("ascii")
                yield text, ast.parse(text)

    def test_files(self):
        self.assertEqual(FOLDER.name, "skeinwood")
        self.assertIn("__init__.py", [path.name for path in files()])
        for path in files():
            self.assertRegex(path.name, r"^([a-z][a-z0-9_]*|__init__|__main__)\.py$")
            self.assertNotRegex(path.name, r"^(test|site|conftest)")

    def test_signs_rows_and_words(self):
        for text, tree in self.each():
            self.assertRegex(text, r"\A[ -~\n]*\Z")
            rows = text.split("\n")
            self.assertLessEqual(len(rows), 401)
            self.assertLessEqual(max(len(row) for row in rows), 120)
            words = re.findall(r"\w+", text)
            self.assertEqual([word for word in words if word in WORDS], [])
            self.assertEqual([part for part in PARTS if part in text], [])

    def test_nodes(self):
        for text, tree in self.each():
            for node in ast.walk(tree):
                self.assertNotIsInstance(node, NODES)
                if isinstance(node, ast.Constant):
                    self.assertNotIsInstance(node.value, (float, bytes, complex))
                if isinstance(node, (ast.For, ast.While)):
                    self.assertEqual(node.orelse, [])
                if isinstance(node, ast.Try):
                    self.assertEqual(node.finalbody, [])
                if isinstance(node, ast.Assign):
                    self.assertEqual(len(node.targets), 1)

    def test_imports_are_of_the_package_alone_and_never_in_a_ring(self):
        draws = {}
        for path in files():
            tree = ast.parse(path.read_text())
            rows = [node for node in ast.walk(tree) if isinstance(node, ast.ImportFrom)]
            self.assertEqual([row for row in rows if row not in tree.body or row.level], [])
            draws["skeinwood." + path.stem] = {row.module for row in rows}
        self.assertEqual(draws.pop("skeinwood.__init__"), set())
        while draws:
            free = [name for name in draws if not draws[name] & set(draws)]
            self.assertNotEqual(free, [])
            for name in free:
                for drawn in draws.pop(name):
                    self.assertTrue((FOLDER / (drawn.removeprefix("skeinwood.") + ".py")).is_file(), drawn)

    def test_the_top_of_a_file(self):
        for text, tree in self.each():
            defs, bound = [], []
            for place, node in enumerate(tree.body):
                if isinstance(node, ast.Expr):
                    self.assertEqual((place, isinstance(node.value.value, str)), (0, True))
                elif isinstance(node, ast.ImportFrom):
                    bound += [drawn.asname or drawn.name for drawn in node.names]
                elif isinstance(node, (ast.FunctionDef, ast.ClassDef)):
                    bound.append(node.name)
                    defs += [node.name] if isinstance(node, ast.FunctionDef) else []
                else:
                    self.assertIsInstance(node, ast.Assign)
                    bound.append(node.targets[0].id)
                    self.plain_value(node.value, defs, False)
            self.assertEqual(len(set(bound)), len(bound))

    def plain_value(self, node, defs, within):
        """A number, a text, a function defined above, or a list, tuple or dict of these, none of the first within."""
        if isinstance(node, ast.Name):
            self.assertIn(node.id, defs)
        elif isinstance(node, ast.Dict):
            self.assertFalse(within)
            for part in node.keys + node.values:
                self.plain_value(part, defs, True)
        elif isinstance(node, (ast.List, ast.Tuple)):
            self.assertFalse(within and isinstance(node, ast.List))
            for part in node.elts:
                self.plain_value(part, defs, True)
        else:
            self.assertIsInstance(node, ast.Constant)

    def test_the_lists_and_dicts_of_a_files_top_are_only_read(self):
        for text, tree in self.each():
            kept = [node.targets[0].id for node in tree.body
                    if isinstance(node, ast.Assign) and isinstance(node.value, (ast.Dict, ast.List))]
            parents = parents_of(tree)
            for node in ast.walk(tree):
                if isinstance(node, ast.Name) and node.id in kept and isinstance(node.ctx, ast.Load):
                    above = parents[node]
                    read = isinstance(above, ast.Subscript) and isinstance(above.ctx, ast.Load) and above.value is node
                    asked = isinstance(above, ast.Attribute) and above.attr == "get"
                    self.assertTrue(read or asked or isinstance(above, ast.Compare), node.id)

    def test_errors_that_are_taken_are_the_packages_own(self):
        errors = ast.parse((FOLDER / "errors.py").read_text())
        own = {node.name for node in errors.body if isinstance(node, ast.ClassDef)}
        for text, tree in self.each():
            for node in ast.walk(tree):
                if isinstance(node, ast.ExceptHandler):
                    self.assertIn(getattr(node.type, "id", None), own)
                if isinstance(node, ast.Raise):
                    self.assertIn(called(node.exc), own)

    def test_functions_and_classes(self):
        for text, tree in self.each():
            for node in ast.walk(tree):
                if isinstance(node, ast.FunctionDef):
                    self.assertLessEqual(node.end_lineno - node.lineno + 1, 40, node.name)
                    self.assertEqual(node.decorator_list, [])
                    taken = node.args
                    self.assertFalse(taken.vararg or taken.kwarg or taken.kwonlyargs or taken.posonlyargs)
                if isinstance(node, ast.ClassDef):
                    self.assertIn(node, tree.body)
                    self.assertLessEqual(len(node.bases), 1)
                    self.assertEqual(node.decorator_list + node.keywords, [])

    def test_names(self):
        for text, tree in self.each():
            for name in bound_names(tree):
                if name not in TWO_UNDERSCORES:
                    self.assertRegex(name, r"^[A-Za-z]\w*$")
            for node in ast.walk(tree):
                if isinstance(node, ast.Name):
                    self.assertTrue(node.id in BUILTINS or not hasattr(builtins, node.id), node.id)
                    self.assertFalse(isinstance(node.ctx, ast.Store) and node.id in BUILTINS, node.id)
                if isinstance(node, ast.arg):
                    self.assertFalse(hasattr(builtins, node.arg), node.arg)

    def test_methods_are_those_of_the_list_or_the_packages_own(self):
        own = set()
        for text, tree in self.each():
            own |= {part.name for node in tree.body if isinstance(node, ast.ClassDef) for part in node.body
                    if isinstance(part, ast.FunctionDef)}
        for text, tree in self.each():
            for node in ast.walk(tree):
                if isinstance(node, ast.Call) and isinstance(node.func, ast.Attribute):
                    self.assertIn(node.func.attr, own | set(METHODS))
                if isinstance(node, (ast.Name, ast.Attribute)):
                    self.assertNotIn(node.id if isinstance(node, ast.Name) else node.attr, UNUSED)

    def test_pythons_own_names_are_called_and_walks_are_not_kept(self):
        for text, tree in self.each():
            parents = parents_of(tree)
            for node in ast.walk(tree):
                above = parents.get(node)
                if isinstance(node, ast.Name) and node.id in BUILTINS and not isinstance(above, ast.ClassDef):
                    kinds = called(above) == "isinstance" or called(parents.get(above)) == "isinstance"
                    self.assertTrue(kinds or called(above) == node.id, node.id)
                if called(node) in WALKED:
                    walk = isinstance(above, (ast.For, ast.comprehension)) and above.iter is node
                    self.assertTrue(walk or called(above) in WALKERS, called(node))

    def test_expressions(self):
        for text, tree in self.each():
            self.assertNotRegex(text, r"\\[^nt\\\"']")
            for node in ast.walk(tree):
                if isinstance(node, ast.Compare) and any(isinstance(op, (ast.Is, ast.IsNot)) for op in node.ops):
                    self.assertIn(getattr(node.comparators[0], "value", 0), (None, True, False))
                if isinstance(node, ast.BinOp) and isinstance(node.op, ast.Pow):
                    self.assertIsInstance(node.right, ast.Constant)
                if isinstance(node, ast.Constant) and isinstance(node.value, str):
                    self.assertNotIn("%", node.value)
                if isinstance(node, ast.ListComp):
                    self.assertEqual(len(node.generators), 1)
                    self.assertLessEqual(len(node.generators[0].ifs), 1)

    def test_no_local_is_called_like_a_class_or_an_import_of_its_file(self):
        for text, tree in self.each():
            taken = {node.name for node in tree.body if isinstance(node, (ast.ClassDef, ast.FunctionDef))}
            for row in tree.body:
                if isinstance(row, ast.ImportFrom):
                    taken |= {drawn.asname or drawn.name for drawn in row.names}
            for node in ast.walk(tree):
                if isinstance(node, ast.arg):
                    self.assertNotIn(node.arg, taken)
                if isinstance(node, ast.Name) and isinstance(node.ctx, ast.Store):
                    self.assertNotIn(node.id, taken)

    def test_no_name_is_a_method_here_and_a_value_there(self):
        methods, kept = set(), set()
        for text, tree in self.each():
            for node in ast.walk(tree):
                if isinstance(node, ast.ClassDef):
                    methods |= {part.name for part in node.body if isinstance(part, ast.FunctionDef)}
                if isinstance(node, ast.Attribute) and isinstance(node.ctx, ast.Store):
                    kept.add(node.attr)
        self.assertEqual(methods & kept, set())


if __name__ == "__main__":
    unittest.main()
