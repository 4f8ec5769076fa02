"""The package keeps to the small language that it is written in, as far as its text easily shows."""

import ast
import os
import unittest

PACKAGE = os.path.join(os.path.dirname(os.path.dirname(os.path.abspath(__file__))), "doorkinds")
BUILTINS = set(
    "len range enumerate zip min max sum abs sorted reversed int str bool list tuple dict set isinstance ord repr any "
    "all divmod super Exception ValueError KeyError".split()
)
BARRED = (
    ast.Global, ast.AsyncFunctionDef, ast.Await, ast.Div, ast.Lambda, ast.AnnAssign, ast.ImportFrom, ast.Import,
)
BARRED_WORDS = set("type typing enum Enum Generic Protocol ABC namedtuple register mro elements open input law".split())


def files():
    return sorted(name for name in os.listdir(PACKAGE) if name != "__pycache__")


def text_of(name):
    with open(os.path.join(PACKAGE, name), encoding="utf-8") as file:
        return file.read()


def trees():
    return [(name, ast.parse(text_of(name))) for name in files()]


def names_in(tree):
    for node in ast.walk(tree):
        if isinstance(node, ast.Name):
            yield node.id
        elif isinstance(node, ast.Attribute):
            yield node.attr
        elif isinstance(node, ast.arg):
            yield node.arg
        elif isinstance(node, (ast.FunctionDef, ast.ClassDef)):
            yield node.name


class Language(unittest.TestCase):
    def test_the_folder_holds_files_of_python_alone(self):
        self.assertIn("__init__.py", files())
        for name in files():
            self.assertRegex(name, r"\A[a-z_]+\.py\Z")

    def test_signs_and_lengths(self):
        signs = {chr(number) for number in range(32, 127)} | {"\n"}
        for name in files():
            text = text_of(name)
            self.assertLessEqual(set(text), signs)
            self.assertLessEqual(len(text.splitlines()), 399)
            self.assertLessEqual(max(len(line) for line in text.splitlines()), 120)

    def test_functions_are_small_and_bare(self):
        for name, tree in trees():
            for node in ast.walk(tree):
                if isinstance(node, ast.FunctionDef):
                    with self.subTest(file=name, function=node.name):
                        self.assertLessEqual(node.end_lineno - node.lineno + 1, 40)
                        self.assertEqual(node.decorator_list, [])

    def test_imports_are_of_the_files_that_define(self):
        defined = {
            name[:-3]: {node.name for node in tree.body if isinstance(node, (ast.FunctionDef, ast.ClassDef))}
            | {target.id for node in tree.body if isinstance(node, ast.Assign) for target in node.targets}
            for name, tree in trees()
        }
        for name, tree in trees():
            for node in ast.walk(tree):
                self.assertNotIsInstance(node, ast.Import)
                if isinstance(node, ast.ImportFrom):
                    self.assertEqual(node.level, 0)
                    package, _, file = node.module.partition(".")
                    self.assertEqual(package, "doorkinds")
                    for alias in node.names:
                        with self.subTest(file=name, taken=alias.name):
                            self.assertIn(alias.name, defined[file])
                            self.assertNotIn(alias.asname or alias.name, defined[name[:-3]])

    def test_barred_statements(self):
        for name, tree in trees():
            for node in ast.walk(tree):
                if not isinstance(node, (ast.Import, ast.ImportFrom)):
                    self.assertNotIsInstance(node, BARRED, name)

    def test_barred_words_and_signs(self):
        for name, tree in trees():
            self.assertEqual(BARRED_WORDS & set(names_in(tree)), set(), name)
            for node in ast.walk(tree):
                if isinstance(node, ast.Constant):
                    self.assertNotIsInstance(node.value, (float, complex))
                    if isinstance(node.value, str):
                        self.assertNotIn("%", node.value)

    def test_builtins(self):
        import builtins
        for name, tree in trees():
            used = {node.id for node in ast.walk(tree) if isinstance(node, ast.Name)}
            self.assertLessEqual(used & set(dir(builtins)), BUILTINS, name)


if __name__ == "__main__":
    unittest.main()
