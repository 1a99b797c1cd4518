"""Points 2, 4 and 5, and the interface, "entryhall/codes.py"."""

import unittest

from entryhall import codes
from entryhall.codes import CODES, code_of, is_code, is_plain
from entryhall.errors import BadKey
from entryhall.unruly import Key


class Agreeing:
    """Says that it is equal to everything."""

    def __eq__(self, other):
        return True

    __hash__ = None


NO_KEYS = [
    Agreeing(),
    True,
    False,
    1.0,
    0.0,
    float("nan"),
    1j,
    b"a",
    [],
    [1],
    {},
    set(),
    frozenset(),
    object(),
    int,
    len,
    "%",
    "a%b",
    "\n",
    "\t",
    "\x00",
    "\x1f",
    "\x7f",
    "\x80",
    "\u00e9",
    "caf\u00e9",
    "\u4e2d",
    "\ud800",
    "a" * 41,
    " " * 1000,
    (True,),
    (1, False),
    ((1.5,),),
    ([],),
    ("%",),
    ("a" * 41,),
    (1, 2, 3, 4, 5, 6, 7),
    ((1, 2, 3, 4, 5, 6, 7),),
    ((((),),),),
    ((((1,),),),),
    (1, ((("a",),),)),
]
PLAIN_KEYS = [
    0,
    1,
    -1,
    4294967295,
    4294967296,
    -4294967297,
    10 ** 5000,
    -(10 ** 5000),
    None,
    "",
    "a",
    " ",
    "~",
    "a" * 40,
    " " * 40,
    "&$",
    (),
    (1,),
    (None, "", ()),
    (1, 2, 3, 4, 5, 6),
    ((),),
    (((),),),
    (((1, 2, 3, 4, 5, 6),),),
    ((1,), 2),
    (1, ("a", (None,)), 10 ** 100),
]


def deep(many):
    thing = ()
    for _ in range(many - 1):
        thing = (thing,)
    return thing


class PlainKeys(unittest.TestCase):
    def test_plain_keys(self):
        for key in PLAIN_KEYS:
            self.assertIs(is_plain(key), True)

    def test_no_plain_keys(self):
        for thing in NO_KEYS:
            self.assertIs(is_plain(thing), False, repr(thing))

    def test_key_objects_are_not_plain(self):
        self.assertIs(is_plain(Key("a", 1)), False)
        self.assertIs(is_plain((Key("a", 1),)), False)

    def test_every_sign_from_the_space_to_the_tilde_but_the_percent_sign(self):
        for number in range(0, 300):
            fits = 32 <= number <= 126 and number != 37
            self.assertIs(is_plain(chr(number)), fits, number)
            self.assertIs(is_plain("ab" + chr(number)), fits, number)
            self.assertIs(is_plain(chr(number) + "ab"), fits, number)

    def test_strings_of_0_to_41_signs(self):
        for many in range(0, 41):
            self.assertIs(is_plain("x" * many), True, many)
        self.assertIs(is_plain("x" * 41), False)

    def test_tuples_of_0_to_7_items(self):
        for many in range(0, 7):
            self.assertIs(is_plain((1,) * many), True, many)
        self.assertIs(is_plain((1,) * 7), False)

    def test_items_are_counted_in_each_tuple(self):
        full = (1, 2, 3, 4, 5, 6)
        self.assertIs(is_plain((full,) * 6), True)
        self.assertIs(is_plain((full, full, (1,) * 7)), False)

    def test_depth(self):
        self.assertEqual([is_plain(deep(many)) for many in (1, 2, 3, 4, 5)], [True, True, True, False, False])
        self.assertIs(is_plain((1, 2, (1, (2,)))), True)
        self.assertIs(is_plain((1, 2, (1, (2, ())))), False)

    def test_very_deep_tuples_give_an_answer(self):
        for many in (1001, 5000, 100000):
            self.assertIs(is_plain(deep(many)), False)
            self.assertIs(is_plain((1, deep(many))), False)

    def test_by_name(self):
        self.assertIs(is_plain(thing="a"), True)
        self.assertIs(is_plain(thing=True), False)

    def test_same_calls_same_results_and_nothing_changed(self):
        given = [1, [2]]
        self.assertEqual([is_plain(given), is_plain((given,)), is_plain(given)], [False] * 3)
        self.assertEqual(given, [1, [2]])


class Codes(unittest.TestCase):
    def test_how_many_codes_there_are(self):
        self.assertEqual(CODES, 4294967296)
        self.assertEqual(CODES, 2 ** 32)
        self.assertIs(type(codes.CODES), int)

    def test_codes(self):
        for thing in (0, 1, 8, 2 ** 31, 4294967295):
            self.assertIs(is_code(thing), True, thing)

    def test_no_codes(self):
        for thing in (4294967296, 10 ** 100, -1, -4294967296, True, False, None, 1.0, "1", "", b"", (), (1,), [], [1]):
            self.assertIs(is_code(thing), False, repr(thing))
        self.assertIs(is_code(Key("a", 1)), False)

    def test_by_name(self):
        self.assertIs(is_code(thing=0), True)
        self.assertIs(is_code(thing=-1), False)


class CodeOf(unittest.TestCase):
    def test_the_example_of_the_document(self):
        self.assertEqual(code_of("ab"), 21812)

    def test_integers(self):
        for key in (0, 1, 4294967295):
            self.assertEqual(code_of(key), key)
        self.assertEqual(code_of(4294967296), 0)
        self.assertEqual(code_of(4294967297), 1)
        self.assertEqual(code_of(-1), 4294967295)
        self.assertEqual(code_of(-4294967296), 0)
        self.assertEqual(code_of(-4294967297), 4294967295)
        self.assertEqual(code_of(10 ** 5000 + 7), (10 ** 5000 + 7) % 2 ** 32)
        self.assertEqual(code_of(-(10 ** 5000) - 7), (-(10 ** 5000) - 7) % 2 ** 32)

    def test_none(self):
        self.assertEqual(code_of(None), 1297303124)

    def test_strings(self):
        self.assertEqual(code_of(""), 17)
        self.assertEqual(code_of("a"), 33 * 17 + 97)
        self.assertEqual(code_of("ba"), 33 * (33 * 17 + 98) + 97)
        total = 17
        for _ in range(40):
            total = 33 * total + 126
        self.assertEqual(code_of("~" * 40), total % 2 ** 32)

    def test_tuples(self):
        self.assertEqual(code_of(()), 41)
        self.assertEqual(code_of((1,)), 1000003 * 41 + 1 + 1)
        self.assertEqual(code_of((1, 2)), ((1000003 * 41 + 1) * 1000003 + 2 + 2) % 2 ** 32)
        self.assertEqual(code_of((2, 1)), ((1000003 * 41 + 2) * 1000003 + 1 + 2) % 2 ** 32)
        self.assertNotEqual(code_of((1, 2)), code_of((2, 1)))
        self.assertEqual(code_of((-1,)), (1000003 * 41 + 4294967295 + 1) % 2 ** 32)
        self.assertEqual(code_of((None,)), (1000003 * 41 + 1297303124 + 1) % 2 ** 32)
        self.assertEqual(code_of(("ab",)), (1000003 * 41 + 21812 + 1) % 2 ** 32)

    def test_worked_out_numbers(self):
        self.assertEqual(code_of((1,)), 41000125)
        self.assertEqual(code_of((1, 2)), 489192760)
        self.assertEqual(code_of((2, 1)), 490192762)
        self.assertEqual(code_of("~" * 3), 752427)

    def test_nested_tuples(self):
        self.assertEqual(code_of(((),)), 1000003 * 41 + 41 + 1)
        self.assertEqual(code_of((((),), "ab")), self.nested(code_of(((),)), 21812))
        self.assertEqual(code_of(((1,), 2)), self.nested(code_of((1,)), 2))
        self.assertNotEqual(code_of(((1,), 2)), code_of((1, (2,))))
        self.assertEqual(code_of(((1, (2,)),)), self.nested(code_of((1, (2,)))))

    def nested(self, *item_codes):
        total = 41
        for code in item_codes:
            total = 1000003 * total + code
        return (total + len(item_codes)) % 2 ** 32

    def test_the_code_of_a_plain_key_is_a_code(self):
        for key in PLAIN_KEYS:
            self.assertIs(is_code(code_of(key)), True)
            self.assertEqual(code_of(key), code_of(key))

    def test_what_is_no_plain_key_is_refused(self):
        for thing in NO_KEYS + [Key("a", 1), (Key("a", 1),), deep(4), deep(5000)]:
            with self.assertRaises(BadKey):
                code_of(thing)

    def test_by_name(self):
        self.assertEqual(code_of(key="ab"), 21812)
        with self.assertRaises(BadKey):
            code_of(key=True)


if __name__ == "__main__":
    unittest.main()
