"""The rules of the language subset that can be read off the source files one by one."""

import ast
import pathlib
import re
import unittest

import beamrows

FOLDER = pathlib.Path(beamrows.__file__).parent
FILES = sorted(FOLDER.glob("*.py"))

BUILTINS = set("""len range enumerate zip min max sum abs sorted reversed int str bool list tuple dict set isinstance
ord repr any all divmod Exception ValueError TypeError KeyError IndexError LookupError ZeroDivisionError
ArithmeticError OverflowError RuntimeError NotImplementedError""".split())

BARRED_WORDS = """type typing typing_extensions enum Enum IntEnum StrEnum Flag IntFlag Generic Protocol ABC ABCMeta
namedtuple NamedTuple TypedDict TYPE_CHECKING abstractmethod""".split()

BARRED_NODES = (ast.Global, ast.AsyncFunctionDef, ast.AsyncFor, ast.AsyncWith, ast.Await, ast.Import, ast.Div)

LITERALS = (int, str, bool, type(None))


def tree_of(path):
    return ast.parse(path.read_text())


def own_imports(path):
    return [node.module for node in tree_of(path).body if isinstance(node, ast.ImportFrom)]


class LanguageTest(unittest.TestCase):
    def each(self, wanted):
        """Each node of the wanted kind in each file."""
        for path in FILES:
            for node in ast.walk(tree_of(path)):
                if isinstance(node, wanted):
                    yield path.name, node

    def test_the_folder_has_source_files_only(self):
        self.assertTrue((FOLDER / "__init__.py").exists())
        for path in FOLDER.iterdir():
            if path.name != "__pycache__":
                self.assertRegex(path.name, r"^[a-z0-9_]+\.py$")

    def test_sizes_and_signs(self):
        for path in FILES:
            lines = path.read_text().split("\n")
            self.assertLessEqual(len(lines), 400, path.name)
            for line in lines:
                self.assertLessEqual(len(line), 120, path.name)
                self.assertTrue(all(" " <= sign <= "~" for sign in line), (path.name, line))
        for name, node in self.each(ast.FunctionDef):
            self.assertLessEqual(node.end_lineno - node.lineno + 1, 40, (name, node.name))
            self.assertEqual(node.decorator_list, [], (name, node.name))

    def test_barred_words(self):
        for path in FILES:
            words = re.findall(r"\w+", path.read_text())
            self.assertEqual([word for word in BARRED_WORDS if word in words], [], path.name)

    def test_barred_nodes(self):
        self.assertEqual([(name, node) for name, node in self.each(BARRED_NODES)], [])
        for name, node in self.each(ast.Constant):
            self.assertIsInstance(node.value, LITERALS, (name, node.lineno))
            if isinstance(node.value, str):
                self.assertNotIn("%", node.value, (name, node.lineno))

    def test_module_level(self):
        allowed = (ast.ImportFrom, ast.FunctionDef, ast.ClassDef, ast.Assign, ast.Expr)
        for path in FILES:
            bound = []
            for node in tree_of(path).body:
                self.assertIsInstance(node, allowed, path.name)
                if isinstance(node, ast.ImportFrom):
                    bound += [alias.name for alias in node.names]
                elif isinstance(node, ast.Assign):
                    bound += [target.id for target in node.targets]
                elif not isinstance(node, ast.Expr):
                    bound.append(node.name)
            self.assertEqual(len(bound), len(set(bound)), path.name)

    def test_names(self):
        known = set(dir(__builtins__) if not isinstance(__builtins__, dict) else __builtins__)
        for name, node in self.each(ast.Name):
            self.assertFalse(node.id.startswith("_"), (name, node.id))
            if node.id in known:
                self.assertIn(node.id, BUILTINS, (name, node.lineno))
                self.assertIsInstance(node.ctx, ast.Load, (name, node.lineno))
        for name, node in self.each(ast.arg):
            self.assertNotIn(node.arg, known, (name, node.lineno))

    def test_methods_and_attributes(self):
        builtin = {name for held in (str, int, list, dict, set, bytes) for name in dir(held)}
        methods, attributes = set(), set()
        for name, node in self.each(ast.ClassDef):
            methods |= {part.name for part in node.body if isinstance(part, ast.FunctionDef)} - {"__init__"}
        for name, node in self.each(ast.Attribute):
            if isinstance(node.ctx, ast.Store):
                attributes.add(node.attr)
        self.assertEqual(methods & attributes, set())
        self.assertEqual((methods | attributes) & builtin, set())
        for name, node in self.each(ast.Attribute):
            self.assertIn(node.attr, methods | attributes | builtin, (name, node.lineno))

    def test_is_stands_with_none_true_and_false_only(self):
        for name, node in self.each(ast.Compare):
            for sign, other in zip(node.ops, node.comparators):
                if isinstance(sign, (ast.Is, ast.IsNot)):
                    self.assertIsInstance(other, ast.Constant, (name, node.lineno))
                    self.assertIn(other.value, (None, True, False), (name, node.lineno))

    def test_no_local_name_hides_an_import(self):
        for path in FILES:
            tree = tree_of(path)
            imported = {alias.name for node in tree.body if isinstance(node, ast.ImportFrom) for alias in node.names}
            names = [node for node in ast.walk(tree) if isinstance(node, ast.Name)]
            stored = {node.id for node in names if isinstance(node.ctx, ast.Store)}
            taken = {node.arg for node in ast.walk(tree) if isinstance(node, ast.arg)}
            self.assertEqual(imported & (stored | taken), set(), path.name)

    def test_each_import_is_used(self):
        for path in FILES:
            tree = tree_of(path)
            imported = {alias.name for node in tree.body if isinstance(node, ast.ImportFrom) for alias in node.names}
            used = {node.id for node in ast.walk(tree) if isinstance(node, ast.Name)}
            self.assertEqual(imported - used, set(), path.name)

    def test_imports_come_from_the_file_that_defines_the_name(self):
        for name, node in self.each(ast.ImportFrom):
            self.assertEqual(node.level, 0, name)
            self.assertTrue(node.module.startswith("beamrows."), (name, node.module))
            source = tree_of(FOLDER / (node.module.split(".")[1] + ".py"))
            defined = {part.name for part in source.body if isinstance(part, (ast.FunctionDef, ast.ClassDef))}
            defined |= {target.id for part in source.body if isinstance(part, ast.Assign) for target in part.targets}
            for alias in node.names:
                self.assertIn(alias.name, defined, name)
                self.assertIsNone(alias.asname, name)

    def test_no_two_files_import_from_each_other(self):
        left = {"beamrows." + path.stem: own_imports(path) for path in FILES}
        while left:
            free = [name for name in left if not any(source in left for source in left[name])]
            self.assertNotEqual(free, [], left)
            for name in free:
                del left[name]


if __name__ == "__main__":
    unittest.main()
