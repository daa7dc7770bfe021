"""Rules of the language that a test can see: sizes, signs, imports, and what the package's folder holds."""

import ast
import builtins
import os
import re
import unittest

TOP = os.path.join(os.path.dirname(__file__), "..")
PACKAGE = os.path.join(TOP, "modulusfields")


CALLED = {
    "len", "range", "enumerate", "zip", "min", "max", "sum", "abs", "sorted", "reversed", "int", "str", "bool", "list",
    "tuple", "dict", "set", "isinstance", "any", "all", "divmod", "super",
}
METHODS = {"append", "copy", "count", "extend", "get", "index", "insert", "items", "keys", "pop", "values", "add"}
WORDS = [
    "type", "typing", "enum", "Enum", "Flag", "Generic", "Protocol", "ABC", "namedtuple", "NamedTuple", "TypedDict",
    "register", "mro", "elements", "open", "input", "law", "eval", "exec", "compile", "globals", "locals", "vars",
]


def files():
    """Return the name and the text of each file of the package."""
    found = []
    for name in sorted(os.listdir(PACKAGE)):
        if name != "__pycache__":
            with open(os.path.join(PACKAGE, name), encoding="utf-8") as file:
                found.append((name, file.read()))
    return found


class LanguageTest(unittest.TestCase):
    def test_only_files_of_the_language(self):
        for name, _ in files():
            self.assertRegex(name, "^[a-z_]+[.]py$")

    def test_sizes_and_signs(self):
        for name, text in files():
            lines = text.splitlines()
            self.assertLessEqual(len(lines), 399, name)
            for line in lines:
                self.assertLessEqual(len(line), 120, name)
                self.assertTrue(all(" " <= sign <= "~" for sign in line), (name, line))

    def test_sizes_of_functions(self):
        for name, text in files():
            for node in ast.walk(ast.parse(text)):
                if isinstance(node, ast.FunctionDef):
                    self.assertLessEqual(node.end_lineno - node.lineno + 1, 40, (name, node.name))

    def test_imports_name_the_file_that_defines(self):
        defined = {}
        for name, text in files():
            nodes = ast.parse(text).body
            defined["modulusfields." + name[:-3]] = [
                node.name for node in nodes if isinstance(node, (ast.FunctionDef, ast.ClassDef))
            ] + [target.id for node in nodes if isinstance(node, ast.Assign) for target in node.targets]
        for name, text in files():
            for node in ast.walk(ast.parse(text)):
                self.assertNotIsInstance(node, ast.Import, name)
                if isinstance(node, ast.ImportFrom):
                    for alias in node.names:
                        self.assertIn(alias.name, defined[node.module], name)

    def test_no_name_of_an_import_or_of_python_means_another_thing(self):
        for name, text in files():
            tree = ast.parse(text)
            imported = {
                alias.name for node in ast.walk(tree) if isinstance(node, ast.ImportFrom) for alias in node.names
            }
            given = [node.arg for node in ast.walk(tree) if isinstance(node, ast.arg)]
            named = [node for node in ast.walk(tree) if isinstance(node, ast.Name)]
            given += [node.id for node in named if isinstance(node.ctx, ast.Store)]
            given += [node.name for node in ast.walk(tree) if isinstance(node, (ast.FunctionDef, ast.ClassDef))]
            for word in given:
                self.assertNotIn(word, imported, name)
                if word not in ["_", "__init__"]:
                    self.assertFalse(hasattr(builtins, word), (name, word))

    def test_calls(self):
        for name, text in files():
            for node in ast.walk(ast.parse(text)):
                if isinstance(node, ast.Call) and isinstance(node.func, ast.Name) and hasattr(builtins, node.func.id):
                    self.assertIn(node.func.id, CALLED, name)
                if isinstance(node, ast.Call) and isinstance(node.func, ast.Attribute):
                    self.assertIn(node.func.attr, METHODS | {"__init__"}, name)
                    self.assertEqual(node.keywords, [], name)

    def test_exponents_are_literals(self):
        for name, text in files():
            for node in ast.walk(ast.parse(text)):
                if isinstance(node, ast.BinOp) and isinstance(node.op, ast.Pow):
                    self.assertIsInstance(node.right, ast.Constant, name)
                self.assertNotIsInstance(node, (ast.Div, ast.Lambda, ast.Global, ast.Yield, ast.AsyncFunctionDef), name)
                if isinstance(node, ast.Constant):
                    self.assertNotIsInstance(node.value, (float, complex), name)

    def test_words(self):
        for name, text in files():
            # Comments and the texts of docstrings may have any words.
            code = re.sub(r"#.*", "", re.sub(r'"""[^"]*"""', "", text))
            for word in re.findall("[A-Za-z_]+", code):
                self.assertNotIn(word, WORDS, name)

    def test_each_name_is_used(self):
        whole = "".join(text for _, text in files())
        for name, text in files():
            for node in ast.walk(ast.parse(text)):
                if isinstance(node, ast.ImportFrom):
                    for alias in node.names:
                        self.assertGreater(len(re.findall(rf"\b{alias.name}\b", text)), 1, (name, alias.name))
                if isinstance(node, ast.FunctionDef) and node.name.startswith("_") and node.name != "__init__":
                    self.assertGreater(len(re.findall(rf"\b{node.name}\b", whole)), 1, (name, node.name))


if __name__ == "__main__":
    unittest.main()
