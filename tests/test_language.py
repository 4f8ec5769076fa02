"""The package keeps to the small language that it is written in, as far as its text easily shows."""

import ast
import os
import unittest

PACKAGE = os.path.join(os.path.dirname(os.path.dirname(os.path.abspath(__file__))), "doorkinds")
BUILTINS = set(
    "len range enumerate zip min max sum abs sorted reversed int str bool list tuple dict set isinstance ord repr any "
    "all divmod super Exception ValueError KeyError".split()
)
BARRED = (
    ast.Global, ast.AsyncFunctionDef, ast.Await, ast.Div, ast.Lambda, ast.AnnAssign, ast.ImportFrom, ast.Import,
)
BARRED_WORDS = set("type typing enum Enum Generic Protocol ABC namedtuple register mro elements open input law".split())


def files():
    return sorted(name for name in os.listdir(PACKAGE) if name != "__pycache__")


def text_of(name):
    with open(os.path.join(PACKAGE, name), encoding="utf-8") as file:
        return file.read()


def trees():
    return [(name, ast.parse(text_of(name))) for name in files()]


def names_in(tree):
    for node in ast.walk(tree):
        if isinstance(node, ast.Name):
            yield node.id
        elif isinstance(node, ast.Attribute):
            yield node.attr
        elif isinstance(node, ast.arg):
            yield node.arg
        elif isinstance(node, (ast.FunctionDef, ast.ClassDef)):
            yield node.name


class Language(unittest.TestCase):
    def test_the_folder_holds_files_of_python_alone(self):
        self.assertIn("__init__.py", files())
        for name in files():
            self.assertRegex(name, r"\A[a-z_]+\.py\Z")

    def test_signs_and_lengths(self):
        signs = {chr(number) for number in range(32, 127)} | {"\n"}
        for name in files():
            text = text_of(name)
            self.assertLessEqual(set(text), signs)
            self.assertLessEqual(len(text.splitlines()), 399)
            self.assertLessEqual(max(len(line) for line in text.splitlines()), 120)

    def test_functions_are_small_and_bare(self):
        for name, tree in trees():
            for node in ast.walk(tree):
                if isinstance(node, ast.FunctionDef):
                    with self.subTest(file=name, function=node.name):
                        self.assertLessEqual(node.end_lineno - node.lineno + 1, 40)
                        self.assertEqual(node.decorator_list, [])

    def test_imports_are_of_the_files_that_define(self):
        defined = {
            name[:-3]: {node.name for node in tree.body if isinstance(node, (ast.FunctionDef, ast.ClassDef))}
            | {target.id for node in tree.body if isinstance(node, ast.Assign) for target in node.targets}
            for name, tree in trees()
        }
        for name, tree in trees():
            for node in ast.walk(tree):
                self.assertNotIsInstance(node, ast.Import)
                if isinstance(node, ast.ImportFrom):
                    self.assertEqual(node.level, 0)
                    package, _, file = node.module.partition(".")
                    self.assertEqual(package, "doorkinds")
                    for alias in node.names:
                        with self.subTest(file=name, taken=alias.name):
                            self.assertIn(alias.name, defined[file])
                            self.assertNotIn(alias.asname or alias.name, defined[name[:-3]])

    def test_barred_statements(self):
        for name, tree in trees():
            for node in ast.walk(tree):
                if not isinstance(node, (ast.Import, ast.ImportFrom)):
                    self.assertNotIsInstance(node, BARRED, name)

    def test_barred_words_and_signs(self):
        for name, tree in trees():
            self.assertEqual(BARRED_WORDS & set(names_in(tree)), set(), name)
            for node in ast.walk(tree):
                if isinstance(node, ast.Constant):
                    self.assertNotIsInstance(node.value, (float, complex))
                    if isinstance(node.value, str):
                        self.assertNotIn("%", node.value)

    def test_no_name_has_two_meanings_in_a_file(self):
        import builtins
        for name, tree in trees():
            taken = set(dir(builtins))
            for node in tree.body:
                if isinstance(node, ast.ImportFrom):
                    taken |= {alias.asname or alias.name for alias in node.names}
                elif isinstance(node, ast.ClassDef):
                    taken.add(node.name)
            for node in ast.walk(tree):
                if isinstance(node, ast.arg):
                    self.assertNotIn(node.arg, taken, name)
                elif isinstance(node, ast.Name) and isinstance(node.ctx, ast.Store):
                    self.assertNotIn(node.id, taken, name)

    def test_no_two_files_import_from_each_other(self):
        taken = {
            name[:-3]: {node.module.split(".")[1] for node in tree.body if isinstance(node, ast.ImportFrom)}
            for name, tree in trees()
        }
        done = set()
        while len(done) < len(taken):
            ready = {name for name, others in taken.items() if name not in done and others <= done}
            self.assertTrue(ready, sorted(set(taken) - done))
            done |= ready

    def test_modules_hold_functions_classes_and_plain_values(self):
        for name, tree in trees():
            for at, node in enumerate(tree.body):
                if at == 0:
                    self.assertIsInstance(node, ast.Expr, name)
                    self.assertIsInstance(node.value.value, str)
                    continue
                self.assertIsInstance(node, (ast.ImportFrom, ast.FunctionDef, ast.ClassDef, ast.Assign), name)
                if isinstance(node, ast.Assign):
                    for value in ast.walk(node.value):
                        self.assertNotIsInstance(value, (ast.Call, ast.ListComp, ast.DictComp, ast.Set), name)

    def test_sets_are_only_measured(self):
        for name, tree in trees():
            fine = [
                node.args[0] for node in ast.walk(tree)
                if isinstance(node, ast.Call) and isinstance(node.func, ast.Name) and node.func.id in ("len", "sorted")
            ]
            for node in ast.walk(tree):
                if isinstance(node, ast.Call) and isinstance(node.func, ast.Name) and node.func.id == "set":
                    self.assertIn(node, fine, name)
                self.assertNotIsInstance(node, (ast.Set, ast.SetComp, ast.GeneratorExp, ast.Yield), name)

    def test_own_methods_of_the_interface_stand_in_their_classes(self):
        due = {
            "pieces": ("Joiner", "take missing whole __len__"),
            "books": ("Book", "fix let_go lead led pairs __len__"),
            "doors": ("Door", "come waiting give_up fix lead led let_go pairs"),
            "yards": (
                "Yard", "join way introduce send cry come lose double bend again road inbox losses broken members"
            ),
            "desk": ("Desk", "say"),
        }
        for name, tree in trees():
            if name[:-3] in due:
                owner, methods = due[name[:-3]]
                found = [node for node in tree.body if isinstance(node, ast.ClassDef) and node.name == owner]
                self.assertEqual(len(found), 1)
                defined = {node.name for node in found[0].body if isinstance(node, ast.FunctionDef)}
                self.assertLessEqual(set(methods.split()), defined)

    def test_functions_of_the_interface_stand_in_their_files(self):
        due = {
            "kinds": "is_kind is_word is_name own_name owner_of", "sayings": "is_saying paths_of part_at size_of",
            "less": "carries lessened", "letters": "written read", "calls": "written read", "pages": "written read",
            "sounds": "written read", "bodies": "written_as read_as is_body", "pieces": "seal_of parted",
            "bars": "is_test is_bars barred_by", "things": "is_thing", "papers": "paper_of first_fault is_paper",
        }
        for name, tree in trees():
            defined = {node.name for node in tree.body if isinstance(node, ast.FunctionDef)}
            self.assertLessEqual(set(due.get(name[:-3], "").split()), defined)

    def test_builtins(self):
        import builtins
        for name, tree in trees():
            used = {node.id for node in ast.walk(tree) if isinstance(node, ast.Name)}
            self.assertLessEqual(used & set(dir(builtins)), BUILTINS, name)


if __name__ == "__main__":
    unittest.main()
