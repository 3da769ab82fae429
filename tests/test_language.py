"""The package keeps to the plain subset: the rules of LANGUAGE.md that a short look can see."""

import ast
import builtins
import pathlib
import re
import unittest

PACKAGE = pathlib.Path(__file__).resolve().parent.parent / "wishdues"
FILES = sorted(path for path in PACKAGE.rglob("*") if path.is_file() and "__pycache__" not in path.parts)
# L8, without chr, which L27 takes away.
ALLOWED = set("""len range enumerate zip min max sum abs sorted reversed int str bool bytes list tuple dict set
    isinstance ord repr any all divmod Exception ValueError TypeError KeyError IndexError LookupError
    ZeroDivisionError ArithmeticError OverflowError RuntimeError NotImplementedError AttributeError StopIteration
    NotImplemented super property staticmethod classmethod""".split())
BARRED_WORDS = set("""type typing typing_extensions enum Enum IntEnum StrEnum Flag IntFlag Generic Protocol ABC
    ABCMeta namedtuple NamedTuple TypedDict TYPE_CHECKING abstractmethod""".split())
BARRED_NODES = (ast.Global, ast.AsyncFunctionDef, ast.AsyncFor, ast.AsyncWith, ast.Await, ast.Import, ast.Div)


def bound_names(tree):
    """All names that a file gives a meaning to."""
    for node in ast.walk(tree):
        if isinstance(node, (ast.FunctionDef, ast.ClassDef)):
            yield node.name
        elif isinstance(node, ast.arg):
            yield node.arg
        elif isinstance(node, ast.Name) and not isinstance(node.ctx, ast.Load):
            yield node.id
        elif isinstance(node, ast.alias):
            yield node.asname or node.name


class Language(unittest.TestCase):

    def each_tree(self):
        return [(path, ast.parse(path.read_text("ascii"))) for path in FILES]

    def test_files(self):
        self.assertIn(PACKAGE / "__init__.py", FILES)
        for path in FILES:
            self.assertRegex(path.name, r"^[a-z0-9_]+\.py$")
            self.assertFalse(path.name.startswith("test"))

    def test_sizes_and_signs(self):
        for path, tree in self.each_tree():
            lines = path.read_text("ascii").split("\n")
            self.assertLessEqual(len(lines), 400)
            for line in lines:
                self.assertLessEqual(len(line), 120)
                self.assertRegex(line, r"^[ -~]*$")
            for node in ast.walk(tree):
                if isinstance(node, ast.FunctionDef):
                    self.assertLessEqual(node.end_lineno - node.lineno + 1, 40)

    def test_words(self):
        for path, tree in self.each_tree():
            self.assertEqual(BARRED_WORDS & set(re.findall(r"\w+", path.read_text("ascii"))), set())

    def test_names(self):
        for path, tree in self.each_tree():
            for name in bound_names(tree):
                self.assertNotIn(name, dir(builtins))
                self.assertTrue(name == "__init__" or re.match("[A-Za-z]", name), name)

    def test_statements_and_numbers(self):
        for path, tree in self.each_tree():
            for node in ast.walk(tree):
                self.assertNotIsInstance(node, BARRED_NODES)
                self.assertFalse(isinstance(node, ast.Constant) and isinstance(node.value, float))
                if isinstance(node, ast.ImportFrom):
                    self.assertTrue(node.module.startswith("wishdues."))
                    self.assertEqual(node.level, 0)

    def test_builtins(self):
        for path, tree in self.each_tree():
            read = {node.id for node in ast.walk(tree) if isinstance(node, ast.Name)}
            self.assertEqual((read & set(dir(builtins))) - ALLOWED, set())


if __name__ == "__main__":
    unittest.main()
