"""The form of the package's files, as far as it is easily told, and the README."""

import ast
import builtins
import doctest
import unittest
from pathlib import Path

ROOT = Path(__file__).resolve().parent.parent
PACKAGE = ROOT / "fifteenforms"

BUILTINS = {
    "len", "range", "enumerate", "zip", "min", "max", "sum", "abs", "sorted", "reversed", "int", "str", "bool",
    "list", "tuple", "dict", "set", "isinstance", "ord", "repr", "any", "all", "divmod", "type", "property",
    "staticmethod", "Exception", "ValueError", "TypeError", "KeyError", "IndexError", "LookupError",
    "ZeroDivisionError", "ArithmeticError",
}
LIBRARY = {("math", "isqrt"), ("math", "gcd")}


def files():
    return sorted(path for path in PACKAGE.rglob("*") if path.is_file() and "__pycache__" not in path.parts)


def tree_of(path):
    return ast.parse(path.read_text(encoding="utf-8"))


class TestCode(unittest.TestCase):
    def test_only_plain_files(self):
        for path in files():
            with self.subTest(path=path.name):
                self.assertEqual(path.suffix, ".py")
                self.assertRegex(path.stem, r"^[a-z_][a-z0-9_]*$")
                self.assertNotRegex(path.stem, r"^test")

    def test_sizes_and_characters(self):
        for path in files():
            text = path.read_text(encoding="utf-8")
            with self.subTest(path=path.name):
                self.assertTrue(all(sign == "\n" or " " <= sign <= "~" for sign in text))
                self.assertLessEqual(len(text.split("\n")), 399)
                self.assertLessEqual(max(len(line) for line in text.split("\n")), 120)
                for node in ast.walk(ast.parse(text)):
                    if isinstance(node, ast.FunctionDef):
                        self.assertLessEqual(node.end_lineno - node.lineno + 1, 40)

    def test_imports_name_the_file_that_defines(self):
        for path in files():
            for node in ast.walk(tree_of(path)):
                self.assertNotIsInstance(node, ast.Import)
                if not isinstance(node, ast.ImportFrom):
                    continue
                for alias in node.names:
                    with self.subTest(path=path.name, name=alias.name):
                        self.assertIsNone(alias.asname)
                        if (node.module, alias.name) not in LIBRARY:
                            self.assertIn(alias.name, self.defined(node.module))

    def defined(self, module):
        package, name = module.split(".")
        self.assertEqual(package, "fifteenforms")
        found = set()
        for node in tree_of(PACKAGE / f"{name}.py").body:
            if isinstance(node, (ast.FunctionDef, ast.ClassDef)):
                found.add(node.name)
            elif isinstance(node, ast.Assign):
                found.update(target.id for target in node.targets)
        return found

    def test_imports_are_used_and_their_names_mean_nothing_else(self):
        for path in files():
            tree = tree_of(path)
            imported = {alias.name for node in tree.body if isinstance(node, ast.ImportFrom) for alias in node.names}
            classes = {node.name for node in tree.body if isinstance(node, ast.ClassDef)}
            names = [node for node in ast.walk(tree) if isinstance(node, ast.Name)]
            with self.subTest(path=path.name):
                self.assertLessEqual(imported, {node.id for node in names if isinstance(node.ctx, ast.Load)})
                assigned = {node.id for node in names if isinstance(node.ctx, ast.Store)}
                assigned.update(node.arg for node in ast.walk(tree) if isinstance(node, ast.arg))
                self.assertEqual(assigned & (imported | classes | set(dir(builtins))), set())

    def test_few_builtins_and_no_floats(self):
        for path in files():
            for node in ast.walk(tree_of(path)):
                with self.subTest(path=path.name, line=getattr(node, "lineno", 0)):
                    if isinstance(node, ast.Name) and hasattr(builtins, node.id):
                        self.assertIn(node.id, BUILTINS)
                    if isinstance(node, ast.Constant):
                        self.assertNotIsInstance(node.value, (float, complex))
                    self.assertNotIsInstance(node, (ast.Div, ast.GeneratorExp, ast.Global))


class TestReadme(unittest.TestCase):
    def test_the_examples_of_the_readme(self):
        failed, tried = doctest.testfile(str(ROOT / "README.md"), module_relative=False, encoding="utf-8")
        self.assertEqual(failed, 0)
        self.assertGreater(tried, 5)

    def test_the_readme_says_how_to_run_the_tests(self):
        text = (ROOT / "README.md").read_text(encoding="utf-8")
        self.assertIn(".ci/run", text)
        self.assertIn("python3 -m unittest", text)
