"""The interface, "entryhall/errors.py": each error, its field, its family."""

import unittest

from entryhall import errors

FIELDS = {
    "TableError": {
        "BadKey": "reason",
        "BadCode": "reason",
        "BadSize": "reason",
        "BadStep": "index",
        "BadPicture": "index",
        "BadPairs": "index",
        "BadView": "reason",
        "BadLayout": "fault",
    },
    "Absent": {"Missing": "key", "Empty": "reason", "NoEntry": "index"},
    "Fault": {
        "CodeFault": "label",
        "MatchFault": "label",
        "Unsettled": "limit",
        "Locked": "reason",
        "NotHeld": "reason",
        "ChangedSize": "expected",
        "ChangedKeys": "reason",
        "TooLarge": "limit",
    },
}
ROOTS = {"TableError": ValueError, "Absent": LookupError, "Fault": RuntimeError}


def each_error():
    for family, fields in FIELDS.items():
        for name, field in fields.items():
            yield getattr(errors, name), field, getattr(errors, family)


class ErrorClasses(unittest.TestCase):
    def test_families_have_the_one_listed_base(self):
        for name, root in ROOTS.items():
            self.assertEqual(getattr(errors, name).__bases__, (root,))

    def test_each_error_has_its_family_as_its_one_base(self):
        for error, _, family in each_error():
            self.assertEqual(error.__bases__, (family,), error)

    def test_no_error_belongs_to_another_family(self):
        for error, _, family in each_error():
            for name, root in ROOTS.items():
                own = name == family.__name__
                self.assertEqual(issubclass(error, getattr(errors, name)), own, error)
                self.assertEqual(issubclass(error, root), own, error)

    def test_there_are_no_other_classes(self):
        found = {name for name, thing in vars(errors).items() if isinstance(thing, type)}
        listed = {name for fields in FIELDS.values() for name in fields}
        self.assertEqual(found, listed | set(ROOTS))

    def test_errors_are_defined_in_their_file(self):
        for error, _, family in each_error():
            self.assertEqual(error.__module__, "entryhall.errors")
            self.assertEqual(family.__module__, "entryhall.errors")


class ErrorFields(unittest.TestCase):
    def test_the_argument_by_position(self):
        for error, field, _ in each_error():
            given = ["any", "thing"]
            self.assertIs(getattr(error(given), field), given, error)

    def test_the_argument_by_name(self):
        for error, field, _ in each_error():
            given = ("any", "thing")
            self.assertIs(getattr(error(**{field: given}), field), given, error)

    def test_the_field_is_the_only_attribute(self):
        for error, field, _ in each_error():
            self.assertEqual(vars(error(3)), {field: 3}, error)

    def test_one_argument_exactly(self):
        for error, field, _ in each_error():
            for call in (lambda: error(), lambda: error(1, 2), lambda: error(1, **{field: 2})):
                with self.assertRaises(TypeError):
                    call()

    def test_another_name_is_refused(self):
        for error, _, _ in each_error():
            with self.assertRaises(TypeError):
                error(other=1)

    def test_raised_and_caught(self):
        for error, field, family in each_error():
            with self.assertRaises(family) as caught:
                raise error(7)
            self.assertIs(type(caught.exception), error)
            self.assertEqual(getattr(caught.exception, field), 7)

    def test_two_errors_keep_their_own_values(self):
        one, other = errors.Missing("a"), errors.Missing("b")
        self.assertEqual((one.key, other.key), ("a", "b"))


if __name__ == "__main__":
    unittest.main()
