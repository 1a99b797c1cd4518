"""The interface is defined where the document lists it, and the files keep to the form of the code."""

import ast
import pathlib
import unittest

PACKAGE = pathlib.Path(__file__).resolve().parent.parent / "entryhall"

FUNCTIONS = {
    "codes": ["is_plain", "is_code", "code_of"],
    "unruly": ["is_key", "need_key", "asked_code", "are_asked"],
}
METHODS = {
    "unruly": {
        "Key": ["code", "matches"],
        "TracedKey": ["code", "matches"],
        "FailingKey": ["code", "matches"],
        "TracedFailingKey": ["code", "matches"],
        "DriftingKey": ["code", "matches"],
        "LopsidedKey": ["code", "matches"],
        "MeddlingKey": ["code", "matches"],
        "Trace": ["events", "note"],
    },
}


def files():
    return sorted(path for path in PACKAGE.rglob("*") if path.is_file() and "__pycache__" not in path.parts)


def tree_of(path):
    return ast.parse(path.read_text(encoding="ascii"))


def defined(body, kind):
    return {node.name: node for node in body if isinstance(node, kind)}


class Interface(unittest.TestCase):
    def test_functions_are_defined_in_their_file(self):
        for file, names in FUNCTIONS.items():
            found = defined(tree_of(PACKAGE / f"{file}.py").body, ast.FunctionDef)
            for name in names:
                self.assertIn(name, found)

    def test_methods_are_defined_in_their_class(self):
        for file, classes in METHODS.items():
            found = defined(tree_of(PACKAGE / f"{file}.py").body, ast.ClassDef)
            for name, methods in classes.items():
                for method in methods:
                    self.assertIn(method, defined(found[name].body, ast.FunctionDef), name)


class Form(unittest.TestCase):
    def test_the_package_holds_python_files_alone(self):
        for path in files():
            self.assertEqual(path.suffix, ".py")
            self.assertFalse(path.name.startswith("test"))

    def test_sizes_and_signs(self):
        for path in files():
            lines = path.read_text(encoding="ascii").split("\n")
            self.assertLessEqual(len(lines), 400, path)
            for number, line in enumerate(lines, 1):
                self.assertLessEqual(len(line), 120, (path, number))
                self.assertTrue(all(" " <= sign <= "~" for sign in line), (path, number))

    def test_functions_have_at_most_40_lines(self):
        for path in files():
            for node in ast.walk(tree_of(path)):
                if isinstance(node, ast.FunctionDef):
                    self.assertLessEqual(node.end_lineno - node.lineno + 1, 40, (path, node.name))

    def test_nothing_from_outside_the_package_is_imported(self):
        for path in files():
            for node in ast.walk(tree_of(path)):
                self.assertNotIsInstance(node, ast.Import, path)
                if isinstance(node, ast.ImportFrom):
                    self.assertTrue(node.level == 0 and node.module.startswith("entryhall."), path)

    def test_no_percent_sign_in_a_string(self):
        for path in files():
            for node in ast.walk(tree_of(path)):
                if isinstance(node, ast.Constant) and isinstance(node.value, str):
                    self.assertNotIn("%", node.value, path)


if __name__ == "__main__":
    unittest.main()
