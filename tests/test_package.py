"""The form of the package: what LANGUAGE.md says that a machine can see easily."""

import ast
import os
import unittest
import warnings

import gongpath

FOLDER = os.path.dirname(os.path.abspath(gongpath.__file__))

INTERFACE = {
    "errors.py": ["GongError", "BadGame", "BadSteps", "BadPlayer", "BadPlace", "TooMany"],
    "games.py": ["turned", "lean"],
    "walks.py": ["walk", "heard", "winner"],
    "drawing.py": ["rounds"],
    "solving.py": ["won", "winning_steps"],
    "judging.py": ["flaw"],
    "measures.py": ["measures"],
}


def names_of_files():
    # Python itself puts __pycache__ there; it is no part of what is committed.
    return sorted(name for name in os.listdir(FOLDER) if name != "__pycache__")


def text_of(name):
    with open(os.path.join(FOLDER, name), encoding="ascii", newline="") as file:
        return file.read()


class Form(unittest.TestCase):
    def test_nothing_but_python_files(self):
        for name in names_of_files():
            self.assertRegex(name, r"\A[a-z0-9_]+\.py\Z")

    def test_characters_and_sizes(self):
        for name in names_of_files():
            with self.subTest(name):
                self.assertRegex(text_of(name), r"\A[\n -~]*\Z")
                lines = text_of(name).splitlines()
                self.assertLessEqual(len(lines), 399)
                self.assertLessEqual(max(map(len, lines)), 120)

    def test_python_gives_no_warning(self):
        for name in names_of_files():
            with self.subTest(name), warnings.catch_warnings():
                warnings.simplefilter("error")
                compile(text_of(name), name, "exec")

    def test_functions_have_at_most_40_lines(self):
        for name in names_of_files():
            for node in ast.walk(ast.parse(text_of(name))):
                if isinstance(node, ast.FunctionDef):
                    self.assertLessEqual(node.end_lineno - node.lineno + 1, 40, node.name)

    def test_imports_name_the_file_that_defines_the_name(self):
        defined = {name: self.defined_in(name) for name in names_of_files()}
        for name in names_of_files():
            for node in ast.walk(ast.parse(text_of(name))):
                self.assertNotIsInstance(node, ast.Import)
                if isinstance(node, ast.ImportFrom):
                    package, file = node.module.split(".")
                    self.assertEqual((package, node.level), ("gongpath", 0))
                    for alias in node.names:
                        self.assertIn(alias.name, defined[file + ".py"])

    def test_the_interface_is_defined_where_it_is_listed(self):
        for name, listed in INTERFACE.items():
            for word in listed:
                self.assertIn(word, self.defined_in(name))

    def defined_in(self, name):
        body = ast.parse(text_of(name)).body
        return [node.name for node in body if isinstance(node, (ast.FunctionDef, ast.ClassDef))]


if __name__ == "__main__":
    unittest.main()
