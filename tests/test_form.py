"""The form of the package's files that LANGUAGE.md asks for and that a glance may miss."""

import ast
import os
import unittest

PACKAGE = os.path.join(os.path.dirname(os.path.dirname(os.path.abspath(__file__))), "leapways")
FILES = sorted(name for name in os.listdir(PACKAGE) if name != "__pycache__")


def text_of(name):
    with open(os.path.join(PACKAGE, name), encoding="utf-8") as file:
        return file.read()


class Form(unittest.TestCase):
    def test_only_python_files(self):
        self.assertEqual([name for name in FILES if not name.endswith(".py")], [])
        self.assertIn("__init__.py", FILES)

    def test_characters_and_sizes(self):
        for name in FILES:
            text = text_of(name)
            self.assertTrue(all(" " <= letter <= "~" or letter == "\n" for letter in text), name)
            lines = text.split("\n")
            self.assertLess(len(lines), 400, name)
            self.assertLessEqual(max(len(line) for line in lines), 120, name)
            for node in ast.walk(ast.parse(text)):
                if isinstance(node, ast.FunctionDef):
                    self.assertLessEqual(node.end_lineno - node.lineno + 1, 40, node.name)

    def test_imports_come_from_the_package(self):
        for name in FILES:
            for node in ast.walk(ast.parse(text_of(name))):
                self.assertNotIsInstance(node, ast.Import)
                if isinstance(node, ast.ImportFrom):
                    self.assertEqual(node.module.split(".")[0], "leapways")
