"""Holds the package's files against those rules of its part of Python that can be seen at a glance."""

import ast
import builtins
import pathlib
import re
import unittest

PACKAGE = pathlib.Path(__file__).resolve().parent.parent / "widenrows"
NO_WORDS = (
    "type typing typing_extensions enum Enum IntEnum StrEnum Flag IntFlag Generic Protocol ABC ABCMeta namedtuple "
    "NamedTuple TypedDict TYPE_CHECKING abstractmethod"
).split()
OWN_NAMES = (
    "len range enumerate zip min max sum abs sorted reversed int str bool list tuple dict set frozenset isinstance ord "
    "repr any all divmod Exception ValueError TypeError KeyError IndexError LookupError ZeroDivisionError "
    "ArithmeticError OverflowError RuntimeError NotImplementedError AttributeError StopIteration"
).split()
STATEMENTS = (
    ast.Module, ast.FunctionDef, ast.ClassDef, ast.ImportFrom, ast.Assign, ast.AugAssign, ast.If, ast.While, ast.For,
    ast.Return, ast.Break, ast.Continue, ast.Pass, ast.Raise, ast.Try, ast.Expr,
)
NO_EXPRESSIONS = (
    ast.SetComp, ast.DictComp, ast.GeneratorExp, ast.NamedExpr, ast.Starred, ast.Div, ast.Yield, ast.YieldFrom,
    ast.Await,
)

OWN_METHODS = (
    "append clear copy count endswith extend find get index insert isalnum isalpha isdigit islower isspace isupper "
    "items join keys ljust lower lstrip partition pop remove replace reverse rfind rjust rpartition rsplit rstrip "
    "setdefault split splitlines startswith strip update upper values zfill bit_length"
).split()
TWO_UNDERSCORES = ("__init__", "__eq__", "__repr__", "__str__", "__len__")


def files():
    return sorted(path for path in PACKAGE.rglob("*") if path.is_file() and "__pycache__" not in path.parts)


def sources():
    return [(path.name, path.read_text(encoding="utf-8")) for path in files()]


def nodes():
    return [(name, node) for name, source in sources() for node in ast.walk(ast.parse(source))]


def methods():
    return {deed.name for name, node in nodes() if isinstance(node, ast.ClassDef)
            for deed in node.body if isinstance(deed, ast.FunctionDef)}


def stored_values():
    return {node.attr for name, node in nodes() if isinstance(node, ast.Attribute) and isinstance(node.ctx, ast.Store)}


def drawn_from():
    """For each file the package's files whose names it imports."""
    return {name[:-3]: {node.module.split(".")[1] for node in ast.walk(ast.parse(source))
                        if isinstance(node, ast.ImportFrom) and node.module != "__future__"}
            for name, source in sources()}


class Language(unittest.TestCase):
    def test_files(self):
        self.assertIn("__init__.py", [path.name for path in files()])
        for path in files():
            self.assertEqual(path.parent, PACKAGE)
            self.assertRegex(path.name, r"\A(__init__|__main__|[a-z][a-z0-9_]*)\.py\Z")

    def test_signs_and_sizes(self):
        for name, source in sources():
            lines = source.split("\n")
            self.assertRegex(source, r"\A[ -~\n]*\Z", name)
            self.assertLessEqual(len(lines), 400, name)
            self.assertLessEqual(max(len(line) for line in lines), 120, name)

    def test_words(self):
        for name, source in sources():
            for word in re.findall(r"\w+", source):
                self.assertNotIn(word, NO_WORDS, name)
                self.assertIsNone(re.search("dataclass|overload|contextmanager", word), name)

    def test_functions_are_small_and_plain(self):
        for name, node in nodes():
            if isinstance(node, ast.FunctionDef):
                self.assertLessEqual(node.end_lineno - node.lineno + 1, 40, (name, node.name))
                self.assertEqual(node.decorator_list, [], (name, node.name))
                self.assertIsNone(node.args.vararg or node.args.kwarg, (name, node.name))
                self.assertEqual(node.args.kwonlyargs, [], (name, node.name))

    def test_imports_are_the_packages_own(self):
        for name, node in nodes():
            self.assertFalse(isinstance(node, ast.Import) and name != "__main__.py", name)
            if isinstance(node, ast.ImportFrom):
                self.assertRegex(node.module or "", r"\A(widenrows\.[a-z][a-z0-9_]*|__future__)\Z", name)
                self.assertEqual(node.level, 0, name)

    def test_statements_and_expressions(self):
        for name, node in nodes():
            if isinstance(node, ast.stmt) and name != "__main__.py":
                self.assertIsInstance(node, STATEMENTS, (name, node.lineno))
            self.assertNotIsInstance(node, NO_EXPRESSIONS, name)
            if isinstance(node, ast.Constant):
                self.assertNotIsInstance(node.value, (float, complex, bytes), (name, node.lineno))

    def test_names_of_pythons_own(self):
        for name, node in nodes():
            if isinstance(node, ast.Name) and name != "__main__.py" and hasattr(builtins, node.id):
                self.assertIn(node.id, OWN_NAMES, (name, node.lineno))
                self.assertIsInstance(node.ctx, ast.Load, (name, node.lineno))
            if isinstance(node, ast.arg):
                self.assertFalse(hasattr(builtins, node.arg), (name, node.lineno))

    def test_names_are_plain(self):
        for name, node in nodes():
            called = getattr(node, "id", None) or getattr(node, "arg", None) or getattr(node, "attr", None)
            if isinstance(node, (ast.FunctionDef, ast.ClassDef)):
                called = node.name
            if isinstance(called, str) and called not in TWO_UNDERSCORES:
                self.assertRegex(called, r"\A[A-Za-z][A-Za-z0-9_]*\Z", name)

    def test_is_stands_beside_none_and_truths_alone(self):
        for name, node in nodes():
            if isinstance(node, ast.Compare) and isinstance(node.ops[0], (ast.Is, ast.IsNot)):
                self.assertIsInstance(node.comparators[0], ast.Constant, (name, node.lineno))
                self.assertIn(node.comparators[0].value, (None, True, False), (name, node.lineno))

    def test_methods(self):
        known = methods().union(OWN_METHODS)
        for name, node in nodes():
            if isinstance(node, ast.Call) and isinstance(node.func, ast.Attribute):
                self.assertIn(node.func.attr, known, (name, node.lineno))
        self.assertEqual(methods() & stored_values(), set())

    def test_names_are_drawn_from_the_file_that_defines_them(self):
        tops = {name[:-3]: {getattr(node, "name", None) or node.targets[0].id for node in ast.parse(source).body
                            if isinstance(node, (ast.FunctionDef, ast.ClassDef, ast.Assign))}
                for name, source in sources()}
        for name, node in nodes():
            if isinstance(node, ast.ImportFrom) and node.module != "__future__":
                for drawn in node.names:
                    self.assertIn(drawn.name, tops[node.module.split(".")[1]], name)

    def test_no_local_is_called_like_a_class_or_an_import(self):
        for name, source in sources():
            tree = ast.parse(source)
            taken = {drawn.name for node in tree.body if isinstance(node, ast.ImportFrom) for drawn in node.names}
            taken |= {node.name for node in tree.body if isinstance(node, ast.ClassDef)}
            for node in ast.walk(tree):
                if isinstance(node, ast.Name) and isinstance(node.ctx, ast.Store):
                    self.assertNotIn(node.id, taken, (name, node.lineno))
                if isinstance(node, ast.arg):
                    self.assertNotIn(node.arg, taken, (name, node.lineno))

    def test_assignments_have_one_target(self):
        for name, node in nodes():
            if isinstance(node, ast.Assign):
                self.assertEqual(len(node.targets), 1, (name, node.lineno))
                self.assertNotIsInstance(node.targets[0], (ast.Tuple, ast.List), (name, node.lineno))

    def test_no_two_files_draw_from_one_another(self):
        left = drawn_from()
        while left:
            free = [name for name in left if not left[name] & set(left)]
            self.assertNotEqual(free, [], left)
            left = {name: left[name] for name in left if name not in free}


if __name__ == "__main__":
    unittest.main()
