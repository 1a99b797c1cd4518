"""The interface is defined where the document lists it, and the files keep to the form of the code."""

import ast
import builtins
import pathlib
import unittest

PACKAGE = pathlib.Path(__file__).resolve().parent.parent / "entryhall"

# What the interface lists for each file: functions, and the methods and properties of classes.
FUNCTIONS = {
    "codes": ["is_plain(thing)", "is_code(thing)", "code_of(key)"],
    "unruly": ["is_key(thing)", "need_key(key)", "asked_code(key)", "are_asked(stored, given)"],
    "pictures": ["steps_between(one, other)"],
    "slots": ["is_size(thing)", "capacity(size)", "size_for(many)", "growth(live)", "path(code, size, many)",
              "first_slots(code, size, many)"],
    "seeking": ["seek(table, key, code)", "seek_key(table, key)", "trail(table, code)", "place_for(table, code)",
                "asked_at(table, key, code)"],
    "audit": ["faults(layout)", "is_sound(layout)", "looks(layout)", "longest_trail(layout)", "rebuilt(layout, size)",
              "after_put(layout, key, value)", "after_drop(layout, key)"],
    "cursors": ["walk_keys(table, *, backwards=False)", "walk_items(table, *, backwards=False)", "walk_slots(table)",
                "drain(table, *, most=None)"],
    "steps": ["is_step(thing)", "perform(table, step)", "run_steps(table, *steps)", "outcomes(table, *steps)"],
    "attempts": ["run_all(table, *steps)", "try_all(table, *steps)", "run_held(table, *steps)"],
}
OF_KEYS = ["code(self)", "matches(self, other)"]
OF_VIEWS = ["how_many(self)", "listed(self, *, backwards=False, start=0, most=None)", "has_changed(self)"]
OF_BLOCKS = ["__enter__(self)", "__exit__(self, kind, value, trace)"]
METHODS = {
    "unruly": {
        "Key": ["__init__(self, label, code)"] + OF_KEYS,
        "TracedKey": ["__init__(self, label, code, trace)"] + OF_KEYS,
        "FailingKey": ["__init__(self, label, code, code_at=0, match_at=0)"] + OF_KEYS,
        "TracedFailingKey": ["__init__(self, label, code, trace, code_at=0, match_at=0)"] + OF_KEYS,
        "DriftingKey": ["__init__(self, label, codes)"] + OF_KEYS,
        "LopsidedKey": ["__init__(self, label, code, answers)"] + OF_KEYS,
        "MeddlingKey": ["__init__(self, label, code, table, steps, code_steps=())"] + OF_KEYS,
        "Trace": ["events(self)", "note(self, event)"],
    },
    "pictures": {
        "Picture": ["__init__(self, pairs)", "pairs(self)", "of(cls, table)", "first(self, key)"],
    },
    "slots": {
        "SlotTable": [
            "__init__(self, size)", "size(self)", "value_at(self, slot)", "as_tuple(self)", "count_of(self, value)",
            "twin(self)", "place(self, code, index)", "erase(self, slot)", "trail(self, code)",
            "slot_of(self, code, index)", "refill(self, size, codes)",
        ],
    },
    "table": {
        "Table": [
            "__init__(self, pairs=())", "live(self)", "filled(self)", "size(self)", "capacity(self)", "room(self)",
            "mark(self)", "changes(self)", "is_held(self)", "put(self, key, value)", "get(self, key, default=None)",
            "fetch(self, key)", "has(self, key)", "probe_count(self, key)", "drop(self, key)",
            "take(self, key, default=None)", "pop_last(self)", "set_default(self, key, value=None)",
            "merge(self, *others, **more)", "clear(self)", "compact(self)", "shrink(self)", "reserve(self, many)",
            "copy(self)", "same_pairs(self, other)", "entry_at(self, index)", "slot_at(self, slot)", "layout(self)",
            "replace_at(self, index, value)", "remove_at(self, index)", "hold(self)", "release(self)",
            "each_key(self)", "each_pair(self)", "each_value(self)", "of(cls, *pairs)",
            "from_keys(cls, keys, value=None)", "plain_code(key)",
        ],
    },
    "pairs": {
        "PairList": [
            "__init__(self, pairs=())", "live(self)", "put(self, key, value)", "get(self, key, default=None)",
            "fetch(self, key)", "has(self, key)", "drop(self, key)", "take(self, key, default=None)",
            "set_default(self, key, value=None)", "pop_last(self)", "clear(self)", "each_key(self)", "each_pair(self)",
            "each_value(self)", "merge(self, *others, **more)", "copy(self)", "same_pairs(self, other)",
            "agrees(self, table)",
        ],
    },
    "cursors": {
        "Cursor": [
            "__init__(self, table, *, backwards=False, start=0)", "position(self)", "has_ended(self)", "is_stale(self)",
            "step(self)", "peek(self)", "left(self)", "take_many(self, most)", "skip(self, many)", "current(self)",
            "set_current(self, value)", "drop_current(self)", "restart(self, *, start=0)", "twin(self)",
        ],
        "CodeCursor": ["__init__(self, table, low, high, *, backwards=False)", "bounds(self)", "twin(self)"],
    },
    "views": {
        "KeyView": OF_VIEWS + [
            "key_at(self, position)", "position_of(self, key)", "has_key(self, key)", "each_from(self, position)",
            "both(self, other)", "only(self, other)", "either(self, other)", "one_of(self, other)",
            "is_part(self, other)", "covers(self, other)", "is_apart(self, other)", "same_keys(self, other)",
            "same_order(self, other)", "common(self, *others)", "together(self, *others)",
        ],
        "ValueView": OF_VIEWS + [
            "value_at(self, position)", "has_value(self, value)", "count_value(self, value)", "keys_with(self, value)",
            "distinct(self)", "groups(self)",
        ],
        "ItemView": OF_VIEWS + [
            "pair_at(self, position)", "has_pair(self, key, value)", "both(self, other)", "only(self, other)",
            "delta_to(self, other)", "merged(self, other, *, keep_own=True)", "inverted(self)",
        ],
    },
    "family": {
        "BoundedTable": [
            "__init__(self, pairs=(), *, bound=8, **more)", "bound(self)", "evicted(self)", "set_bound(self, bound)",
        ],
        "JournaledTable": ["records(self)", "forget(self)"],
        "DefaultTable": ["__init__(self, pairs=(), *, maker=None, **more)", "has_maker(self)", "fetch(self, key)"],
        "OrderedTable": [
            "move_last(self, key)", "move_first(self, key)", "place_of(self, key)", "at(self, place)",
            "pop_first(self)",
        ],
        "RecentTable": ["fetch(self, key)"],
        "DefaultRecent": ["fetch(self, key)"],
        "JournaledBounded": [],
        "BoundedJournaled": [],
        "Numbering": ["__init__(self, start=0, by=1)", "__call__(self, key)", "given(self)"],
    },
    "attempts": {"Attempt": OF_BLOCKS, "Trial": OF_BLOCKS, "Holding": OF_BLOCKS},
    "journal": {
        "Journal": [
            "__init__(self, table)", "done(self)", "undone(self)", "do(self, step)", "undo(self)", "redo(self)",
            "accept(self)",
        ],
    },
}


BUILTINS = [
    "len", "range", "enumerate", "zip", "min", "max", "list", "tuple", "dict", "int", "str", "bool", "isinstance", "ord",
    "any", "all", "super", "property", "classmethod", "staticmethod", "NotImplemented", "ValueError", "LookupError",
    "RuntimeError", "TypeError",
]


def files():
    return sorted(path for path in PACKAGE.rglob("*") if path.is_file() and "__pycache__" not in path.parts)


def tree_of(path):
    return ast.parse(path.read_text(encoding="ascii"))


def defined(body, kind):
    return {node.name: node for node in body if isinstance(node, kind)}


def headings(body):
    """The functions of a body, each as its name and its parameters."""
    return [f"{name}({ast.unparse(node.args)})" for name, node in defined(body, ast.FunctionDef).items()]


class Interface(unittest.TestCase):
    def test_functions_are_defined_in_their_file(self):
        for file, functions in FUNCTIONS.items():
            found = headings(tree_of(PACKAGE / f"{file}.py").body)
            for function in functions:
                self.assertIn(function, found)

    def test_methods_are_defined_in_their_class(self):
        for file, classes in METHODS.items():
            found = defined(tree_of(PACKAGE / f"{file}.py").body, ast.ClassDef)
            for name, methods in classes.items():
                for method in methods:
                    self.assertIn(method, headings(found[name].body), name)


class Form(unittest.TestCase):
    def test_the_package_holds_python_files_alone(self):
        for path in files():
            self.assertEqual(path.suffix, ".py")
            self.assertFalse(path.name.startswith("test"))

    def test_sizes_and_signs(self):
        for path in files():
            lines = path.read_text(encoding="ascii").split("\n")
            self.assertLessEqual(len(lines), 400, path)
            for number, line in enumerate(lines, 1):
                self.assertLessEqual(len(line), 120, (path, number))
                self.assertTrue(all(" " <= sign <= "~" for sign in line), (path, number))

    def test_functions_have_at_most_40_lines(self):
        for path in files():
            for node in ast.walk(tree_of(path)):
                if isinstance(node, ast.FunctionDef):
                    self.assertLessEqual(node.end_lineno - node.lineno + 1, 40, (path, node.name))

    def test_nothing_from_outside_the_package_is_imported(self):
        for path in files():
            for node in ast.walk(tree_of(path)):
                self.assertNotIsInstance(node, ast.Import, path)
                if isinstance(node, ast.ImportFrom):
                    self.assertTrue(node.level == 0 and node.module.startswith("entryhall."), path)

    def test_builtins(self):
        for path in files():
            for node in ast.walk(tree_of(path)):
                if isinstance(node, ast.Name) and hasattr(builtins, node.id):
                    self.assertIn(node.id, BUILTINS, (path, node.lineno))
                    self.assertIsInstance(node.ctx, ast.Load, (path, node.lineno))

    def test_decorators(self):
        for path in files():
            for node in ast.walk(tree_of(path)):
                for decorator in getattr(node, "decorator_list", []):
                    self.assertIn(ast.unparse(decorator), ("property", "classmethod", "staticmethod"), path)

    def test_names_of_parameters_and_variables(self):
        for path in files():
            tree = tree_of(path)
            taken = set(defined(tree.body, ast.ClassDef)) | set(dir(builtins))
            for node in tree.body:
                taken |= {name.name for name in node.names} if isinstance(node, ast.ImportFrom) else set()
            for node in ast.walk(tree):
                if isinstance(node, ast.arg):
                    self.assertNotIn(node.arg, taken, path)
                if isinstance(node, ast.Name) and isinstance(node.ctx, ast.Store):
                    self.assertNotIn(node.id, taken, (path, node.lineno))

    def test_is_stands_beside_none_true_and_false_alone(self):
        for path in files():
            for node in ast.walk(tree_of(path)):
                if isinstance(node, ast.Compare) and isinstance(node.ops[0], (ast.Is, ast.IsNot)):
                    self.assertIsInstance(node.comparators[0], ast.Constant, (path, node.lineno))

    def test_names_that_are_methods_and_attributes_or_properties(self):
        called, stored, shown = set(), set(), set()
        for path in files():
            for node in ast.walk(tree_of(path)):
                if isinstance(node, ast.ClassDef):
                    for method in defined(node.body, ast.FunctionDef).values():
                        (shown if method.decorator_list else called).add(method.name)
                if isinstance(node, ast.Attribute) and isinstance(node.ctx, ast.Store):
                    stored.add(node.attr)
        self.assertEqual((called & stored, called & shown, stored & shown), (set(), set(), set()))

    def test_no_percent_sign_in_a_string(self):
        for path in files():
            for node in ast.walk(tree_of(path)):
                if isinstance(node, ast.Constant) and isinstance(node.value, str):
                    self.assertNotIn("%", node.value, path)


if __name__ == "__main__":
    unittest.main()
