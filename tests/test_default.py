"""Point 63: DefaultTable, and Numbering."""

from entryhall.errors import BadCode, BadKey, BadPairs, CodeFault, Locked, MatchFault, Missing, TooLarge, Unsettled
from entryhall.family import DefaultRecent, DefaultTable, Numbering
from entryhall.table import Table
from entryhall.unruly import FailingKey, Key, MeddlingKey, Trace, TracedKey
from tests.helpers import Case, look
from tests.test_codes import NO_KEYS
from tests.test_lookups import Own, meddled

DEFAULT = [DefaultTable, DefaultRecent]


class Small(DefaultTable):
    """A table with room for two entries."""

    MAX_LIVE = 2


def never(key):
    raise AssertionError(f"the maker was called with {key}")


class New(Case):
    def test_an_empty_table(self):
        for made in DEFAULT:
            table = made()
            self.assertIsInstance(table, Table)
            self.assertEqual((table.has_maker, look(table)), (False, look(Table())))
            self.assertEqual(list(made(pairs=[("a", 1)], maker=len).each_pair()), [("a", 1)])
            self.assertEqual(self.refused(BadPairs, made, 5, maker=never), 0)
            with self.assertRaises(TypeError):
                made([], never)

    def test_has_maker(self):
        for made in DEFAULT:
            self.assertIs(made(maker=None).has_maker, False)
            for maker in (never, Numbering(), lambda key: key, str):
                self.assertIs(made(maker=maker).has_maker, True)
            with self.assertRaises(AttributeError):
                made().has_maker = True

    def test_of_and_from_keys_have_no_maker(self):
        for made in DEFAULT:
            for table in (made.of(("a", 1)), made.from_keys(["a"], 1)):
                self.assertEqual((type(table), table.has_maker, table.fetch("a")), (made, False, 1))


class Fetch(Case):
    def test_without_a_maker(self):
        for made in DEFAULT:
            table, key = made([("a", 1)]), ("x", 1)
            self.assertEqual(table.fetch("a"), 1)
            self.assertIs(self.unchanged(table, Missing, table.fetch, key), key)

    def test_the_value_is_made_put_and_returned(self):
        for made in DEFAULT:
            value, asked = [], []
            table = made([("a", 1)], maker=lambda key: asked.append(key) or value)
            self.assertEqual((table.fetch("a"), asked), (1, []))
            self.assertIs(table.fetch(key="b"), value)
            self.assertIs(table.fetch("b"), value)
            self.assertEqual((list(table.each_pair()), asked), ([("a", 1), ("b", value)], ["b"]))
            self.assertEqual((table.mark, table.changes), (2, 2))

    def test_the_maker_gets_the_very_key(self):
        for made in DEFAULT:
            asked, key = [], Key("k", 5)
            table = made(maker=asked.append)
            self.assertIsNone(table.fetch(key))
            self.assertIs(asked[0], key)
            self.assertIsNone(table.fetch(Key("k", 5)))
            self.assertEqual(asked, [key])

    def test_other_methods_do_not_use_the_maker(self):
        for made in DEFAULT:
            table = made([("a", 1)], maker=never)
            self.assertEqual((table.get("x"), table.get("x", 5)), (None, 5))
            self.assertEqual((table.has("x"), table.take("x", 6)), (False, 6))
            self.assertEqual((table.set_default("b"), table.set_default("c", 7)), (None, 7))
            self.assertEqual((table.probe_count(0), table.fetch("a")), (1, 1))
            self.unchanged(table, Missing, table.drop, "x")
            table.put("x", 1)
            table.merge([("y", 1)])
            self.assertIs(type(table.copy()), Table)
            self.refused(Missing, table.copy().fetch, "z")

    def test_keys_that_are_refused(self):
        for made in DEFAULT:
            table = made([("", 0)], maker=never)
            for bad in NO_KEYS:
                self.unchanged(table, BadKey, table.fetch, bad)
            self.unchanged(table, BadCode, table.fetch, Own(-1, True))
            self.unchanged(table, CodeFault, table.fetch, FailingKey("f", 17, 1))
            self.unchanged(table, MatchFault, table.fetch, FailingKey("f", 17, 0, 1))
            inner = meddled(17)
            table.put(Own(99, True, lambda: inner.get(0)), 0)
            self.assertEqual(self.unchanged(table, Unsettled, table.fetch, 99), 16)

    def test_errors_before_the_maker_is_called(self):
        for made in DEFAULT:
            table = made([("a", 1)], maker=never)
            table.hold()
            self.unchanged(table, Locked, table.fetch, "x")
            self.assertEqual(table.fetch("a"), 1)
            table = made([("a", 1)])
            table.hold()
            self.unchanged(table, Missing, table.fetch, "x")
        table = Small([("a", 1), ("b", 2)], maker=never)
        self.assertEqual(self.unchanged(table, TooLarge, table.fetch, "x"), 2)
        table.hold()
        self.unchanged(table, Locked, table.fetch, "x")
        full = DefaultTable([(number, 0) for number in range(600)], maker=never)
        self.assertEqual(self.unchanged(full, TooLarge, full.fetch, -1), 600)
        self.assertEqual(Small([("a", 1), ("b", 2)]).live, 2)
        self.assertEqual(self.refused(Missing, Small([("a", 1), ("b", 2)]).fetch, "x"), "x")

    def test_growth(self):
        table = DefaultTable([(number, 0) for number in range(5)], maker=Numbering(7))
        self.assertEqual((table.fetch(5), table.size, table.mark, table.changes), (7, 16, 7, 6))


class Makers(Case):
    def test_a_maker_that_raises(self):
        def fail(key):
            raise ZeroDivisionError

        for made in DEFAULT:
            table = made([("a", 1)], maker=fail)
            before = look(table)
            with self.assertRaises(ZeroDivisionError):
                table.fetch("x")
            self.assertEqual(look(table), before)

    def test_a_maker_that_puts_the_same_key(self):
        for made in DEFAULT:
            table = made(maker=lambda key: table.put(key, "inner") or "outer")
            self.assertEqual((table.fetch("x"), list(table.each_pair())), ("outer", [("x", "outer")]))
            self.assertEqual((table.mark, table.changes), (1, 1))

    def test_a_maker_that_puts_another_key(self):
        for made in DEFAULT:
            table = made(maker=lambda key: table.put(("other", key), 0) or "made")
            self.assertEqual(table.fetch("x"), "made")
            self.assertEqual(list(table.each_pair()), [(("other", "x"), 0), ("x", "made")])

    def test_a_maker_that_drops_clears_and_rebuilds(self):
        for made in DEFAULT:
            for change, left in [(lambda: table.drop("a"), [("b", 2)]), (lambda: table.clear(), []),
                                 (lambda: table.reserve(100), [("a", 1), ("b", 2)]),
                                 (lambda: table.pop_last(), [("a", 1)])]:
                table = made([("a", 1), ("b", 2)], maker=lambda key: change() and None)
                self.assertIsNone(table.fetch("x"))
                self.assertEqual(list(table.each_pair()), left + [("x", None)])

    def test_a_maker_that_fetches_from_the_same_table(self):
        for made in DEFAULT:
            table = made(maker=lambda number: 1 if number < 2 else table.fetch(number - 1) + table.fetch(number - 2))
            self.assertEqual(table.fetch(6), 13)
            self.assertEqual(sorted(table.each_key()), [0, 1, 2, 3, 4, 5, 6])

    def test_a_maker_that_holds_the_table(self):
        for made in DEFAULT:
            table = made([("a", 1)], maker=lambda key: table.hold() or "made")
            self.refused(Locked, table.fetch, "x")
            self.assertEqual((table.is_held, list(table.each_pair())), (True, [("a", 1)]))
            # Where the maker has put the key before, the value is replaced, which a held table allows.
            table = made(maker=lambda key: (table.put(key, 0), table.hold(), "made")[2])
            self.assertEqual((table.fetch("x"), list(table.each_pair())), ("made", [("x", "made")]))

    def test_a_maker_that_fills_the_table(self):
        table = Small(maker=lambda key: table.merge([(1, 1), (2, 2)]))
        self.assertEqual(self.refused(TooLarge, table.fetch, "x"), 2)
        self.assertEqual(list(table.each_key()), [1, 2])

    def test_key_objects_are_asked_for_their_code_once(self):
        for made in DEFAULT:
            trace = Trace()
            table = made([(8, "eight")], maker=lambda key: "made")
            self.assertEqual(table.fetch(TracedKey("t", 8, trace)), "made")
            # Two lookups, before and behind the maker, but the code is known.
            self.assertEqual(trace.events(), [("code", "t"), ("matches", "t", 8), ("matches", "t", 8)])

    def test_a_new_lookup_behind_the_maker(self):
        for made in DEFAULT:
            same = Key("k", 5)
            table = made(maker=lambda key: table.put(same, "inner") or "outer")
            self.assertEqual(table.fetch(Key("k", 5)), "outer")
            self.assertEqual(list(table.each_pair()), [(same, "outer")])
            failing = FailingKey("f", 5, 0, 1)
            table = made(maker=lambda key: table.put(failing, "inner"))
            self.assertEqual(self.refused(MatchFault, table.fetch, 5), "f")
            self.assertEqual(list(table.each_key()), [failing])

    def test_keys_that_change_the_table_in_the_lookups(self):
        for made in DEFAULT:
            table = made([("a", 1)], maker=lambda key: "made")
            key = MeddlingKey("m", 0, table, (("drop", "a"), ("put", "b", 2)), (("put", 0, "zero"),))
            self.assertEqual(table.fetch(key), "made")
            self.assertEqual(list(table.each_pair()), [(0, "zero"), ("b", 2), (key, "made")])


class Numbers(Case):
    def test_numbers_in_a_row(self):
        for given, expected in [((), [0, 1, 2]), ((10,), [10, 11, 12]), ((5, 0), [5, 5, 5]), ((3, -2), [3, 1, -1]),
                                ((-10 ** 30, 10 ** 29), [-10 ** 30, -9 * 10 ** 29, -8 * 10 ** 29])]:
            numbering = Numbering(*given)
            self.assertEqual(numbering.given, 0)
            told = []
            for many in range(1, 4):
                told.append(numbering(("any", many)))
                self.assertEqual(numbering.given, many)
            self.assertEqual(told, expected)

    def test_by_name(self):
        numbering = Numbering(by=5, start=2)
        self.assertEqual((numbering(key="a"), numbering("a"), numbering.given), (2, 7, 2))
        with self.assertRaises(AttributeError):
            numbering.given = 5

    def test_as_a_maker(self):
        for made in DEFAULT:
            numbering = Numbering(10)
            table = made([("a", 1)], maker=numbering)
            self.assertEqual([table.fetch(key) for key in "abcab"], [1, 10, 11, 1, 10])
            self.assertEqual(numbering.given, 2)
            self.refused(BadKey, table.fetch, True)
            table.set_default("d")
            self.assertEqual((numbering.given, table.fetch("e")), (2, 12))
