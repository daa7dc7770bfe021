"""Rules of the language that a test can see: sizes, signs, imports, and what the package's folder holds."""

import ast
import os
import unittest

TOP = os.path.join(os.path.dirname(__file__), "..")
PACKAGE = os.path.join(TOP, "modulusfields")


def files():
    """Return the name and the text of each file of the package."""
    found = []
    for name in sorted(os.listdir(PACKAGE)):
        if name != "__pycache__":
            with open(os.path.join(PACKAGE, name), encoding="utf-8") as file:
                found.append((name, file.read()))
    return found


class LanguageTest(unittest.TestCase):
    def test_only_files_of_the_language(self):
        for name, _ in files():
            self.assertRegex(name, "^[a-z_]+[.]py$")

    def test_sizes_and_signs(self):
        for name, text in files():
            lines = text.splitlines()
            self.assertLessEqual(len(lines), 399, name)
            for line in lines:
                self.assertLessEqual(len(line), 120, name)
                self.assertTrue(all(" " <= sign <= "~" for sign in line), (name, line))

    def test_sizes_of_functions(self):
        for name, text in files():
            for node in ast.walk(ast.parse(text)):
                if isinstance(node, ast.FunctionDef):
                    self.assertLessEqual(node.end_lineno - node.lineno + 1, 40, (name, node.name))

    def test_imports_name_the_file_that_defines(self):
        defined = {}
        for name, text in files():
            nodes = ast.parse(text).body
            defined["modulusfields." + name[:-3]] = [
                node.name for node in nodes if isinstance(node, (ast.FunctionDef, ast.ClassDef))
            ] + [target.id for node in nodes if isinstance(node, ast.Assign) for target in node.targets]
        for name, text in files():
            for node in ast.walk(ast.parse(text)):
                self.assertNotIsInstance(node, ast.Import, name)
                if isinstance(node, ast.ImportFrom):
                    for alias in node.names:
                        self.assertIn(alias.name, defined[node.module], name)


if __name__ == "__main__":
    unittest.main()
