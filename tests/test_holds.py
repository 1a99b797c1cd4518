"""Point 25: tables that are held."""

from entryhall.errors import BadCode, BadKey, BadPairs, BadSize, CodeFault, Empty
from entryhall.errors import Locked, MatchFault, Missing, NoEntry, NotHeld
from entryhall.table import Table
from entryhall.unruly import DriftingKey, FailingKey, Key, LopsidedKey, MeddlingKey
from tests.helpers import Case, look
from tests.test_tables import Small


def held_table():
    """A held table of size 16 with a hole, and without room."""
    table = Table([(number, "v") for number in range(10)])
    table.drop(0)
    table.hold()
    return table


class Holds(Case):
    def test_holds_are_counted(self):
        table = Table([(1, 2)])
        self.assertIs(table.is_held, False)
        self.assertIsNone(table.hold())
        self.assertIs(table.is_held, True)
        table.hold()
        self.assertIsNone(table.release())
        self.assertIs(table.is_held, True)
        self.unchanged(table, Locked, table.drop, 1)
        table.release()
        self.assertIs(table.is_held, False)
        table.drop(1)
        self.assertEqual((table.live, table.mark), (0, 2))

    def test_holding_changes_nothing_else(self):
        table = Table([(1, 2)])
        before = look(table)
        table.hold()
        table.release()
        self.assertEqual(look(table), before)

    def test_not_held(self):
        table = Table()
        self.unchanged(table, NotHeld, table.release)
        table.hold()
        table.release()
        self.unchanged(table, NotHeld, table.release)
        table.hold()
        self.assertIs(table.is_held, True)

    def test_a_copy_is_not_held(self):
        copy = held_table().copy()
        self.assertIs(copy.is_held, False)
        copy.drop(1)
        self.refused(NotHeld, copy.release)


class Refused(Case):
    def locked(self, table, call, *given, **named):
        self.unchanged(table, Locked, call, *given, **named)

    def test_additions(self):
        table = held_table()
        self.locked(table, table.put, 0, "new")
        self.locked(table, table.set_default, 0)
        self.locked(table, table.merge, [(0, "new")])
        self.locked(table, table.merge, Table([(0, "new")]))
        self.locked(table, table.merge, a=1)

    def test_removals(self):
        table = held_table()
        self.locked(table, table.drop, 5)
        self.locked(table, table.take, 5)
        self.locked(table, table.pop_last)
        self.locked(table, table.remove_at, 1)

    def test_rebuilds(self):
        table = held_table()
        self.locked(table, table.compact)
        self.locked(table, table.reserve, 10)
        self.locked(table, table.clear)
        table = Table()
        table.reserve(6)
        table.hold()
        self.locked(table, table.clear)
        self.locked(table, table.shrink)
        self.locked(table, table.reserve, 11)

    def test_clear_of_holes_alone(self):
        table = Table([("a", 1)])
        table.drop("a")
        table.hold()
        self.locked(table, table.clear)

    def test_before_too_large(self):
        table = Small([(1, 1), (2, 2), (3, 3)])
        table.hold()
        self.locked(table, table.put, 4, 4)
        self.locked(table, table.set_default, 4)

    def test_a_merge_goes_on_until_it_would_add(self):
        table = held_table()
        self.refused(Locked, table.merge, [(1, "new"), (0, "x"), (2, "new")])
        self.assertEqual((table.get(1), table.get(2), table.has(0)), ("new", "v", False))


class Allowed(Case):
    def test_what_would_change_nothing(self):
        table = held_table()
        before = look(table)
        self.assertEqual((table.take(0), table.take(0, 5), table.set_default(1, 5)), (None, 5, "v"))
        table.shrink()
        table.reserve(9)
        table.reserve(0)
        table.merge()
        table.merge([], (), Table())
        self.assertEqual((table.get(1), table.fetch(1), table.has(0), table.probe_count(1)), ("v", "v", False, 1))
        self.assertTrue(table.same_pairs(table.copy()))
        self.assertEqual(look(table), before)
        table = Table()
        table.hold()
        table.clear()
        table.compact()
        table.shrink()
        table.reserve(5)
        self.assertEqual(table.mark, 0)

    def test_replaced_values(self):
        table, key = Table([(1, "a"), (2, "b"), (3, "c")]), Key("k", 5)
        table.put(key, "d")
        table.hold()
        table.put(1, "new")
        table.put(key, "key")
        table.replace_at(1, "at")
        table.merge([(3, "merged")])
        self.assertEqual(list(table.each_value()), ["new", "at", "merged", "key"])
        table.merge(Table([(1, "table")]), table)
        self.assertEqual(list(table.each_value()), ["table", "at", "merged", "key"])
        self.assertEqual(table.mark, 4)


class ErrorsBeforeLocked(Case):
    def test_keys_and_codes(self):
        table = held_table()
        bad = DriftingKey("d", (1,))
        bad.code = lambda: -1
        for call in (lambda key: table.put(key, 1), table.set_default, table.drop, table.take):
            self.unchanged(table, BadKey, call, True)
            self.unchanged(table, BadCode, call, bad)
            self.unchanged(table, CodeFault, call, FailingKey("f", 1, 1))
            self.unchanged(table, MatchFault, call, FailingKey("f", 1, 0, 1))

    def test_what_is_not_there(self):
        table = held_table()
        self.unchanged(table, Missing, table.drop, 0)
        self.unchanged(table, NoEntry, table.remove_at, 0)
        self.unchanged(table, NoEntry, table.remove_at, 10)
        self.unchanged(table, NoEntry, table.replace_at, 0, 1)
        table = Table()
        table.hold()
        self.unchanged(table, Empty, table.pop_last)

    def test_arguments(self):
        table = held_table()
        for bad in (-1, 601, None, True):
            self.unchanged(table, BadSize, table.reserve, bad)
        self.assertEqual(self.unchanged(table, BadPairs, table.merge, [(0, "new")], None), 1)


class Questions(Case):
    def test_a_key_that_would_change_a_held_table(self):
        table = Table([(1, "a"), (2, "b")])
        table.put(MeddlingKey("m", 5, table, (("drop", 1),), ()), "c")
        table.hold()
        self.unchanged(table, Locked, table.get, Key("k", 5))
        table.release()
        self.assertIsNone(table.get(Key("k", 5)))
        self.assertEqual(list(table.each_value()), ["a", "b", "c"])

    def test_an_answer_decides_whether_a_call_would_add(self):
        table = Table([(LopsidedKey("l", 5, (True, False)), "a")])
        table.hold()
        table.put(5, "new")
        self.unchanged(table, Locked, table.put, 5, "newer")
        self.assertEqual(list(table.each_value()), ["new"])
