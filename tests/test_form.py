"""The form of the package's files, as far as it can be seen by counting and by names."""

import ast
import pathlib
import re
import unittest

PACKAGE = pathlib.Path(__file__).resolve().parent.parent / "pathbook"
FILES = sorted(PACKAGE.glob("*.py"))
BARRED = (
    "type typing typing_extensions enum Enum IntEnum StrEnum Flag IntFlag Generic Protocol ABC ABCMeta namedtuple "
    "NamedTuple TypedDict TYPE_CHECKING abstractmethod"
).split()
UNDERSCORED = ("__init__", "__eq__", "__str__", "__len__")
BUILTINS = (
    "len range enumerate zip min max sum abs sorted reversed int str bool list tuple dict set isinstance ord repr "
    "any all divmod"
).split()


def trees():
    return [(path.name, ast.parse(path.read_text())) for path in FILES]


def names_in(tree):
    """Every name that a file gives, reads or imports."""
    for node in ast.walk(tree):
        if isinstance(node, ast.Name):
            yield node.id
        elif isinstance(node, ast.Attribute):
            yield node.attr
        elif isinstance(node, ast.arg):
            yield node.arg
        elif isinstance(node, (ast.FunctionDef, ast.ClassDef)):
            yield node.name
        elif isinstance(node, ast.alias):
            yield node.asname or node.name


class Form(unittest.TestCase):
    def test_nothing_but_python_files(self):
        found = [path.name for path in PACKAGE.iterdir() if path.name != "__pycache__"]
        self.assertEqual(sorted(found), [path.name for path in FILES])
        self.assertIn("__init__.py", found)

    def test_sizes_and_signs(self):
        for path in FILES:
            text = path.read_text()
            rows = text.split("\n")
            self.assertLessEqual(len(rows), 399, path.name)
            self.assertLessEqual(max(len(row) for row in rows), 120, path.name)
            self.assertRegex(text, r"\A[ -~\n]*\Z", path.name)
            self.assertFalse(set(re.findall(r"\w+", text)) & set(BARRED), path.name)

    def test_functions_are_short(self):
        for name, tree in trees():
            for node in ast.walk(tree):
                if isinstance(node, ast.FunctionDef):
                    self.assertLessEqual(node.end_lineno - node.lineno + 1, 40, (name, node.name))

    def test_imports(self):
        for name, tree in trees():
            for node in ast.walk(tree):
                self.assertNotIsInstance(node, ast.Import, name)
                if isinstance(node, ast.ImportFrom):
                    self.assertRegex(node.module, r"\Apathbook\.[a-z_]+\Z", name)
                    self.assertEqual(node.level, 0, name)

    def test_plain_names(self):
        for name, tree in trees():
            for one in names_in(tree):
                self.assertTrue(one in UNDERSCORED or re.match(r"[a-zA-Z]\w*\Z", one), (name, one))

    def test_builtins_that_are_called(self):
        builtin = vars(__import__("builtins"))
        for name, tree in trees():
            for node in ast.walk(tree):
                if isinstance(node, ast.Call) and isinstance(node.func, ast.Name) and node.func.id in builtin:
                    self.assertIn(node.func.id, BUILTINS, name)

    def test_is_with_none_true_and_false_alone(self):
        for name, tree in trees():
            for node in ast.walk(tree):
                if isinstance(node, ast.Compare) and any(isinstance(sign, (ast.Is, ast.IsNot)) for sign in node.ops):
                    self.assertIn(ast.unparse(node.comparators[0]), ("None", "True", "False"), name)


if __name__ == "__main__":
    unittest.main()
