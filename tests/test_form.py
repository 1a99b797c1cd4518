"""The interface is defined where the document lists it, and the files keep to the form of the code."""

import ast
import pathlib
import unittest

PACKAGE = pathlib.Path(__file__).resolve().parent.parent / "entryhall"

# What the interface lists for each file: functions, and the methods and properties of classes.
FUNCTIONS = {
    "codes": ["is_plain(thing)", "is_code(thing)", "code_of(key)"],
    "unruly": ["is_key(thing)", "need_key(key)", "asked_code(key)", "are_asked(stored, given)"],
    "pictures": ["steps_between(one, other)"],
    "slots": ["is_size(thing)", "capacity(size)", "size_for(many)", "growth(live)", "path(code, size, many)",
              "first_slots(code, size, many)"],
    "seeking": ["seek(table, key, code)", "seek_key(table, key)", "trail(table, code)", "place_for(table, code)",
                "asked_at(table, key, code)"],
}
OF_KEYS = ["code(self)", "matches(self, other)"]
METHODS = {
    "unruly": {
        "Key": ["__init__(self, label, code)"] + OF_KEYS,
        "TracedKey": ["__init__(self, label, code, trace)"] + OF_KEYS,
        "FailingKey": ["__init__(self, label, code, code_at=0, match_at=0)"] + OF_KEYS,
        "TracedFailingKey": ["__init__(self, label, code, trace, code_at=0, match_at=0)"] + OF_KEYS,
        "DriftingKey": ["__init__(self, label, codes)"] + OF_KEYS,
        "LopsidedKey": ["__init__(self, label, code, answers)"] + OF_KEYS,
        "MeddlingKey": ["__init__(self, label, code, table, steps, code_steps=())"] + OF_KEYS,
        "Trace": ["events(self)", "note(self, event)"],
    },
    "pictures": {
        "Picture": ["__init__(self, pairs)", "pairs(self)", "of(cls, table)", "first(self, key)"],
    },
    "slots": {
        "SlotTable": [
            "__init__(self, size)", "size(self)", "value_at(self, slot)", "as_tuple(self)", "count_of(self, value)",
            "twin(self)", "place(self, code, index)", "erase(self, slot)", "trail(self, code)",
            "slot_of(self, code, index)", "refill(self, size, codes)",
        ],
    },
    "table": {
        "Table": [
            "__init__(self, pairs=())", "live(self)", "filled(self)", "size(self)", "capacity(self)", "room(self)",
            "mark(self)", "changes(self)", "is_held(self)", "put(self, key, value)", "get(self, key, default=None)",
            "fetch(self, key)", "has(self, key)", "probe_count(self, key)", "drop(self, key)",
            "take(self, key, default=None)", "pop_last(self)", "set_default(self, key, value=None)",
            "merge(self, *others, **more)", "clear(self)", "compact(self)", "shrink(self)", "reserve(self, many)",
            "copy(self)", "same_pairs(self, other)", "entry_at(self, index)", "slot_at(self, slot)", "layout(self)",
            "replace_at(self, index, value)", "remove_at(self, index)", "hold(self)", "release(self)",
            "each_key(self)", "each_pair(self)", "each_value(self)", "of(cls, *pairs)",
            "from_keys(cls, keys, value=None)", "plain_code(key)",
        ],
    },
}


def files():
    return sorted(path for path in PACKAGE.rglob("*") if path.is_file() and "__pycache__" not in path.parts)


def tree_of(path):
    return ast.parse(path.read_text(encoding="ascii"))


def defined(body, kind):
    return {node.name: node for node in body if isinstance(node, kind)}


def headings(body):
    """The functions of a body, each as its name and its parameters."""
    return [f"{name}({ast.unparse(node.args)})" for name, node in defined(body, ast.FunctionDef).items()]


class Interface(unittest.TestCase):
    def test_functions_are_defined_in_their_file(self):
        for file, functions in FUNCTIONS.items():
            found = headings(tree_of(PACKAGE / f"{file}.py").body)
            for function in functions:
                self.assertIn(function, found)

    def test_methods_are_defined_in_their_class(self):
        for file, classes in METHODS.items():
            found = defined(tree_of(PACKAGE / f"{file}.py").body, ast.ClassDef)
            for name, methods in classes.items():
                for method in methods:
                    self.assertIn(method, headings(found[name].body), name)


class Form(unittest.TestCase):
    def test_the_package_holds_python_files_alone(self):
        for path in files():
            self.assertEqual(path.suffix, ".py")
            self.assertFalse(path.name.startswith("test"))

    def test_sizes_and_signs(self):
        for path in files():
            lines = path.read_text(encoding="ascii").split("\n")
            self.assertLessEqual(len(lines), 400, path)
            for number, line in enumerate(lines, 1):
                self.assertLessEqual(len(line), 120, (path, number))
                self.assertTrue(all(" " <= sign <= "~" for sign in line), (path, number))

    def test_functions_have_at_most_40_lines(self):
        for path in files():
            for node in ast.walk(tree_of(path)):
                if isinstance(node, ast.FunctionDef):
                    self.assertLessEqual(node.end_lineno - node.lineno + 1, 40, (path, node.name))

    def test_nothing_from_outside_the_package_is_imported(self):
        for path in files():
            for node in ast.walk(tree_of(path)):
                self.assertNotIsInstance(node, ast.Import, path)
                if isinstance(node, ast.ImportFrom):
                    self.assertTrue(node.level == 0 and node.module.startswith("entryhall."), path)

    def test_no_percent_sign_in_a_string(self):
        for path in files():
            for node in ast.walk(tree_of(path)):
                if isinstance(node, ast.Constant) and isinstance(node.value, str):
                    self.assertNotIn("%", node.value, path)


if __name__ == "__main__":
    unittest.main()
