"""What LANGUAGE.md asks of the files as such: L1, L2, L10, L14 and L27."""

import ast
import pathlib
import unittest
import warnings

PACKAGE = pathlib.Path(__file__).resolve().parent.parent / "baylines"
LIBRARY = ("heapq", "math", "itertools", "collections", "__future__")


def files():
    return sorted(PACKAGE.rglob("*.py"))


def tree(file):
    return ast.parse(file.read_text(encoding="utf-8"))


class Files(unittest.TestCase):

    def test_the_package_holds_nothing_but_its_files(self):
        others = [one for one in PACKAGE.rglob("*") if one.is_file() and "__pycache__" not in one.parts]
        self.assertEqual(sorted(others), files())
        self.assertTrue((PACKAGE / "__init__.py").is_file())

    def test_signs_and_sizes(self):
        for file in files():
            text = file.read_text(encoding="utf-8")
            self.assertEqual([sign for sign in text if not " " <= sign <= "~" and sign != "\n"], [], file)
            self.assertLess(len(text.splitlines()), 400, file)
            self.assertEqual([line for line in text.splitlines() if len(line) > 120], [], file)

    def test_functions_are_short(self):
        for file in files():
            for node in ast.walk(tree(file)):
                if isinstance(node, ast.FunctionDef):
                    self.assertLessEqual(node.end_lineno - node.lineno + 1, 40, (file, node.name))

    def test_imports(self):
        for file in files():
            for node in ast.walk(tree(file)):
                self.assertNotIsInstance(node, ast.Import, file)
                if isinstance(node, ast.ImportFrom):
                    self.assertEqual(node.level, 0, file)
                    self.assertIn(node.module.split(".")[0], ("baylines",) + LIBRARY, file)
                    self.assertNotIn("*", [name.name for name in node.names], file)

    def test_python_warns_of_no_line(self):
        for file in files():
            with warnings.catch_warnings():
                warnings.simplefilter("error")
                compile(file.read_text(encoding="utf-8"), str(file), "exec")


if __name__ == "__main__":
    unittest.main()
