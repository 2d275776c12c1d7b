"""The form that LANGUAGE.md asks of the package, as far as a few lines can tell it."""

import ast
import os
import unittest

PACKAGE = os.path.join(os.path.dirname(os.path.dirname(os.path.abspath(__file__))), "snaptree")


def files():
    return sorted(name for name in os.listdir(PACKAGE) if name != "__pycache__")


def text_of(name):
    with open(os.path.join(PACKAGE, name), encoding="utf-8", newline="") as file:
        return file.read()


class FormTest(unittest.TestCase):
    def test_the_folder_contains_python_files_alone(self):
        self.assertIn("__init__.py", files())
        for name in files():
            self.assertRegex(name, r"\A[a-z0-9_]+\.py\Z")

    def test_signs_are_plain(self):
        for name in files():
            odd = {sign for sign in text_of(name) if sign != "\n" and not " " <= sign <= "~"}
            self.assertEqual((name, odd), (name, set()))

    def test_sizes(self):
        for name in files():
            lines = text_of(name).split("\n")
            self.assertLessEqual(len(lines), 400, name)
            self.assertLessEqual(max(len(line) for line in lines), 120, name)

    def test_functions_have_at_most_forty_lines(self):
        for name in files():
            for node in ast.walk(ast.parse(text_of(name))):
                if isinstance(node, ast.FunctionDef):
                    self.assertLessEqual(node.end_lineno - node.lineno + 1, 40, (name, node.name))

    def test_imports_are_from_the_package(self):
        for name in files():
            for node in ast.walk(ast.parse(text_of(name))):
                self.assertNotIsInstance(node, ast.Import, name)
                if isinstance(node, ast.ImportFrom):
                    self.assertEqual((node.level, node.module.split(".")[0]), (0, "snaptree"), name)


if __name__ == "__main__":
    unittest.main()
