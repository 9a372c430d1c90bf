"""The files of the package keep the rules of the language that a short test can see."""

import ast
import builtins
import pathlib
import re
import unittest

PACKAGE = pathlib.Path(__file__).resolve().parent.parent / "plainask"
FILES = sorted(PACKAGE.rglob("*.py"))
BUILTINS = """len range enumerate zip min max sum abs sorted reversed int str bool bytes list tuple dict set
    isinstance ord repr any all divmod iter next super property staticmethod classmethod
    Exception ValueError TypeError KeyError IndexError LookupError ZeroDivisionError ArithmeticError
    OverflowError RuntimeError NotImplementedError AttributeError StopIteration NotImplemented""".split()
BARRED_WORDS = """type typing typing_extensions enum Enum IntEnum StrEnum Flag IntFlag Generic Protocol ABC ABCMeta
    namedtuple NamedTuple TypedDict TYPE_CHECKING abstractmethod register mro elements open input law
    version_info with_traceback add_note""".split()


class LanguageTests(unittest.TestCase):
    def test_l1_the_package_holds_nothing_but_its_files(self):
        self.assertIn(PACKAGE / "__init__.py", FILES)
        for path in PACKAGE.rglob("*"):
            if "__pycache__" not in path.parts:
                self.assertTrue(path.suffix == ".py" and re.fullmatch("[a-z0-9_]+", path.stem), path)

    def test_l2_imports_are_from_the_package(self):
        for path, tree in self.trees():
            for node in ast.walk(tree):
                self.assertNotIsInstance(node, ast.Import, path)
                if isinstance(node, ast.ImportFrom):
                    self.assertTrue(node.level == 0 and node.module.startswith("plainask."), path)
                    self.assertIn(node, tree.body, path)

    def test_l8_no_other_builtin_is_read(self):
        for path, tree in self.trees():
            for node in ast.walk(tree):
                if isinstance(node, ast.Name) and node.id in dir(builtins):
                    self.assertIn(node.id, BUILTINS, path)

    def test_l10_sizes(self):
        for path, tree in self.trees():
            lines = path.read_text().split("\n")
            self.assertLessEqual(len(lines), 399, path)
            for line in lines:
                self.assertLessEqual(len(line), 120, path)
            for node in ast.walk(tree):
                if isinstance(node, ast.FunctionDef):
                    self.assertLessEqual(node.end_lineno - node.lineno + 1, 40, (path, node.name))

    def test_l12_names_do_not_begin_with_an_underscore(self):
        for path, tree in self.trees():
            for node in ast.walk(tree):
                name = getattr(node, "id", getattr(node, "attr", getattr(node, "arg", getattr(node, "name", "x"))))
                if isinstance(name, str) and not re.fullmatch("__[a-z]+__", name):
                    self.assertFalse(name.startswith("_"), (path, name))

    def test_l14_characters(self):
        for path in FILES:
            for character in path.read_text():
                self.assertTrue(character == "\n" or " " <= character <= "~", (path, character))

    def test_l17_words(self):
        for path in FILES:
            words = set(re.findall(r"\w+", path.read_text()))
            self.assertEqual(words & set(BARRED_WORDS), set(), path)

    def trees(self):
        return [(path, ast.parse(path.read_text())) for path in FILES]


if __name__ == "__main__":
    unittest.main()
