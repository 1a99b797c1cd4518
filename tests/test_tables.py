"""Points 2 and 20 to 24, and the interface, "entryhall/table.py"."""

from entryhall.codes import code_of
from entryhall.errors import BadKey, BadPairs, BadSize, Empty, Missing, NoEntry, TooLarge
from entryhall.slots import capacity
from entryhall.table import Table
from entryhall.unruly import Key, Trace, TracedFailingKey
from tests.helpers import NO_INTEGERS, Case, Row, look
from tests.test_codes import NO_KEYS

EMPTY_LOOK = ((8, (-1,) * 8, (), 0), [], (0, 0, 8, 5, 5), (0, 0, False))


class Small(Table):
    """A table with room for three live entries."""

    MAX_LIVE = 3


def quiet_key(label, code, trace=None):
    """A key object that answers its first question about its code, and nothing else."""
    return TracedFailingKey(label, code, Trace() if trace is None else trace, 2, 1)


def holed():
    """A table with the entries None, b, None, d and the slots of a and c as holes."""
    table = Table([(0, "a"), (8, "b"), (3, "c"), (16, "d")])
    table.drop(0)
    table.drop(3)
    return table


class New(Case):
    def test_a_new_table(self):
        self.assertEqual(look(Table()), EMPTY_LOOK)
        for pairs in ((), [], Table(), Row()):
            self.assertEqual(look(Table(pairs)), EMPTY_LOOK)

    def test_class_values(self):
        self.assertEqual((Table.MIN_SIZE, Table.MAX_LIVE, Table.MAX_RESTARTS), (8, 600, 16))
        self.assertEqual((Table().MIN_SIZE, Table().MAX_LIVE, Table().MAX_RESTARTS), (8, 600, 16))

    def test_with_pairs(self):
        for pairs in ([("a", 1), ("b", 2), ("a", 3)], (("a", 1), ("b", 2), ("a", 3))):
            table = Table(pairs=pairs)
            self.assertEqual(list(table.each_pair()), [("a", 3), ("b", 2)])
            self.assertEqual((table.mark, table.changes), (2, 2))

    def test_with_a_table(self):
        source = holed()
        table = Table(source)
        self.assertEqual(list(table.each_pair()), [(8, "b"), (16, "d")])
        self.assertEqual((table.filled, table.mark, table.changes), (2, 2, 2))

    def test_no_pairs(self):
        for thing in [None, 5, "", "ab", {}, {"a": 1}, {("a", 1)}, iter([]), [("a",)], [["a", 1]], ["ab"], [()], 1.5]:
            self.assertEqual(self.refused(BadPairs, Table, thing), 0)
            self.assertEqual(self.refused(BadPairs, Table, [("a", 1), thing]), 0)

    def test_keys_are_checked_when_they_are_put(self):
        for thing in NO_KEYS:
            self.refused(BadKey, Table, [("a", 1), (thing, 2)])
        self.assertEqual(self.refused(BadPairs, Table, [(True, 1), None]), 0)

    def test_the_lists_are_not_kept(self):
        pairs = [("a", 1)]
        table = Table(pairs)
        pairs.append(("b", 2))
        self.assertEqual(list(table.each_pair()), [("a", 1)])
        table.put("c", 3)
        self.assertEqual(pairs, [("a", 1), ("b", 2)])

    def test_of(self):
        self.assertEqual(list(Table.of(("a", 1), ("b", 2)).each_pair()), [("a", 1), ("b", 2)])
        self.assertEqual(look(Table.of()), EMPTY_LOOK)
        self.assertIs(type(Small.of(("a", 1))), Small)
        self.assertEqual(self.refused(BadPairs, Table.of, ("a", 1), "ab"), 0)
        self.assertEqual(self.refused(TooLarge, Small.of, (1, 1), (2, 2), (3, 3), (4, 4)), 3)

    def test_from_keys(self):
        self.assertEqual(list(Table.from_keys(["b", "a", "b"]).each_pair()), [("b", None), ("a", None)])
        value = []
        table = Table.from_keys(keys=("a", 1), value=value)
        self.assertEqual(list(table.each_key()), ["a", 1])
        self.assertTrue(all(held is value for held in table.each_value()))
        self.assertIs(type(Small.from_keys([1])), Small)
        self.assertEqual(Table.from_keys([], 5).live, 0)
        for thing in (None, 5, "ab", {"a": 1}, {"a"}, iter([]), Table()):
            self.assertEqual(self.refused(BadPairs, Table.from_keys, thing, 1), 0)
        self.refused(BadKey, Table.from_keys, ["a", True])

    def test_plain_code(self):
        for key in ("ab", 9, None, (1, "a")):
            self.assertEqual(Table.plain_code(key), code_of(key))
        self.assertEqual((Table.plain_code(key="ab"), Table().plain_code("ab")), (21812, 21812))
        for thing in NO_KEYS + [Key("a", 1)]:
            self.refused(BadKey, Table.plain_code, thing)

    def test_properties_cannot_be_set(self):
        for name in ("live", "filled", "size", "capacity", "room", "mark", "changes", "is_held"):
            with self.assertRaises(AttributeError):
                setattr(Table(), name, 1)


class WorkedOut(Case):
    def test_the_example_of_the_document(self):
        table = Table.of((1, "a"), (9, "b"))
        self.assertEqual(table.layout(), (8, (-1, 0, -1, -1, -1, -1, 1, -1), ((1, 1, "a"), (9, 9, "b")), 2))
        self.assertIsNone(table.drop(1))
        shown = (table.live, table.filled, table.room, table.mark, table.probe_count(9), table.slot_at(1))
        self.assertEqual(shown, (1, 2, 3, 3, 2, -2))
        self.assertIsNone(table.put(17, "c"))
        entries = (None, (9, 9, "b"), (17, 17, "c"))
        self.assertEqual(table.layout(), (8, (-1, 2, -1, -1, -1, -1, 1, -1), entries, 4))

    def test_values_replaced(self):
        table, value = Table([("a", 1), ("b", 2)]), ["new"]
        layout = table.layout()
        table.put("a", value)
        self.assertEqual(table.layout()[:2], layout[:2])
        self.assertEqual(list(table.each_pair()), [("a", value), ("b", 2)])
        self.assertEqual((table.mark, table.changes), (2, 2))
        self.assertIs(table.fetch("a"), value)
        table.put(value=None, key="b")
        self.assertIsNone(table.fetch("b"))

    def test_growth_when_the_room_is_0(self):
        table = Table([(number, number) for number in range(5)])
        self.assertEqual((table.size, table.capacity, table.room, table.mark, table.changes), (8, 5, 0, 5, 5))
        table.put(0, "again")
        self.assertEqual((table.size, table.mark), (8, 5))
        table.put(16, 5)
        self.assertEqual((table.size, table.capacity, table.room, table.mark, table.changes), (16, 10, 4, 7, 6))
        # Code 16 goes from slot 0 to slot 1, which is taken too, and then to 5 * 1 + 1.
        self.assertEqual(table.layout()[1], (0, 1, 2, 3, 4, -1, 5) + (-1,) * 9)
        self.assertEqual(table.entry_at(5), (16, 16, 5))

    def test_a_full_table_with_holes_may_become_smaller(self):
        table = Table([(number, number) for number in range(11)])
        self.assertEqual((table.size, table.room), (32, 10))
        for number in range(11, 21):
            table.put(number, number)
        for number in range(20):
            table.drop(number)
        self.assertEqual((table.live, table.filled, table.room, table.mark, table.changes), (1, 21, 0, 43, 41))
        table.put(28, "x")
        entries = ((20, 20, 20), (28, 28, "x"))
        # Code 20 has slot 4, and code 28 goes on to 5 * 4 + 1 modulo 8.
        self.assertEqual(table.layout(), (8, (-1, -1, -1, -1, 0, 1, -1, -1), entries, 45))
        self.assertEqual((table.live, table.room, table.changes), (2, 3, 42))

    def test_all_entries_removed_and_one_added(self):
        table = Table([(number, 0) for number in range(5)])
        for number in range(5):
            table.drop(number)
        self.assertEqual(table.layout(), (8, (-2,) * 5 + (-1,) * 3, (None,) * 5, 10))
        self.assertEqual((table.live, table.room, table.changes), (0, 0, 10))
        table.put(2, 1)
        self.assertEqual(table.layout(), (8, (-1, -1, 0) + (-1,) * 5, ((2, 2, 1),), 12))
        self.assertEqual(table.changes, 11)

    def test_holes(self):
        table = holed()
        # Codes 0, 8, 16 and 24 go along 0, 1, 6, 7, and code 3 goes along 3, 0, 1, 6, 7.
        self.assertEqual(table.layout()[:2], (8, (-2, 1, -1, -2, -1, -1, 3, -1)))
        self.assertEqual(table.layout()[2], (None, (8, 8, "b"), None, (16, 16, "d")))
        self.assertEqual((table.live, table.filled, table.room, table.mark, table.changes), (2, 4, 1, 6, 6))
        self.assertEqual((table.probe_count(16), table.probe_count(24), table.probe_count(3)), (3, 4, 5))
        table.put(0, "new")
        self.assertEqual(table.layout()[1], (4, 1, -1, -2, -1, -1, 3, -1))
        self.assertEqual(list(table.each_key()), [8, 16, 0])

    def test_sizes(self):
        table, sizes = Table(), []
        for number in range(600):
            before = table.size, table.live, table.mark
            table.put(number, None)
            self.assertEqual((table.capacity, table.room), (capacity(table.size), capacity(table.size) - number - 1))
            if table.size != before[0]:
                sizes.append((number, table.size, table.mark - before[2]))
        self.assertEqual(sizes, [(5, 16, 2), (10, 32, 2), (21, 64, 2), (42, 128, 2), (85, 256, 2), (170, 512, 2),
                                 (341, 1024, 2)])

    def test_a_layout_stays_as_it_was(self):
        table = Table([("a", 1)])
        layout, entry = table.layout(), table.entry_at(0)
        table.put("a", 2)
        table.drop("a")
        self.assertEqual((layout[2], entry), ((("a", 658, 1),), ("a", 658, 1)))


class CallsWithAKey(Case):
    def test_get_fetch_has(self):
        value = ["v"]
        table = Table([("a", value), ("n", None)])
        self.assertIs(table.get("a"), value)
        self.assertIs(table.fetch(key="a"), value)
        self.assertEqual((table.get("n", 5), table.fetch("n")), (None, None))
        self.assertEqual((table.get("x"), table.get("x", 5)), (None, 5))
        self.assertEqual([table.has("a"), table.has(key="n"), table.has("x")], [True, True, False])
        self.assertEqual(self.unchanged(table, Missing, table.fetch, "x"), "x")
        given = (1, "x")
        self.assertIs(self.unchanged(table, Missing, table.fetch, given), given)

    def test_drop_and_take(self):
        value = ["v"]
        table = Table([("a", 1), ("b", value), ("c", 3)])
        self.assertIsNone(table.drop(key="a"))
        self.assertIs(table.take("b"), value)
        self.assertEqual((table.live, table.filled, table.mark, table.changes), (1, 3, 5, 5))
        before = look(table)
        self.assertEqual((table.take("b"), table.take("b", 7), table.take(key="b", default=8)), (None, 7, 8))
        self.assertEqual(look(table), before)
        self.assertEqual(self.unchanged(table, Missing, table.drop, "b"), "b")
        self.assertEqual((table.take("c", 9), table.live), (3, 0))

    def test_set_default(self):
        table, value = Table([("a", 1)]), ["v"]
        before = look(table)
        self.assertEqual(table.set_default("a", 2), 1)
        self.assertEqual(look(table), before)
        self.assertIs(table.set_default(key="b", value=value), value)
        self.assertIsNone(table.set_default("c"))
        self.assertEqual(list(table.each_pair()), [("a", 1), ("b", value), ("c", None)])
        self.assertEqual((table.set_default("c", 5), table.mark, table.changes), (None, 3, 3))

    def test_probe_count(self):
        table = Table([(number, 0) for number in (0, 8, 16, 3)])
        counts = [table.probe_count(key) for key in (0, 8, 16, 24, 3, 11, 2)]
        self.assertEqual(counts, [1, 2, 3, 4, 1, 5, 1])
        self.assertEqual(table.probe_count(key=Key("k", 0)), 4)

    def test_what_is_no_key(self):
        table = Table([("a", 1), (1, 2), ((1, 2), 3)])
        for thing in NO_KEYS + [(Key("a", 1),)]:
            for call in (table.get, table.fetch, table.has, table.probe_count, table.drop, table.take):
                self.unchanged(table, BadKey, call, thing)
            self.unchanged(table, BadKey, table.put, thing, 1)
            self.unchanged(table, BadKey, table.set_default, thing)

    def test_equal_keys_of_other_kinds_are_no_keys(self):
        table = Table([(1, "one"), (0, "zero")])
        for thing in (True, False, 1.0, 0.0):
            self.unchanged(table, BadKey, table.get, thing)
        self.assertEqual(table.get(1 - 2 ** 32 + 2 ** 32), "one")

    def test_plain_keys_with_equal_codes_are_different_keys(self):
        table = Table([(0, "a"), (2 ** 32, "b"), (-(2 ** 32), "c")])
        self.assertEqual([table.fetch(key) for key in (0, 2 ** 32, -(2 ** 32))], ["a", "b", "c"])
        self.assertEqual(table.layout()[1], (0, 1, -1, -1, -1, -1, 2, -1))

    def test_the_stored_key_stays(self):
        one, other = Key("k", 5), Key("k", 5)
        table = Table([(one, 1)])
        table.put(other, 2)
        self.assertEqual(list(table.each_pair()), [(one, 2)])
        self.assertEqual(table.entry_at(0), (one, 5, 2))
        first, second = ("long", 1), tuple(["long", 1])
        table = Table([(first, 1)])
        table.put(second, 2)
        self.assertIs(table.entry_at(0)[0], first)

    def test_pop_last(self):
        table = Table([("a", 1), (quiet_key("k", 5), 2), ("c", 3), ("d", 4)])
        key = table.entry_at(1)[0]
        self.assertEqual(table.pop_last(), ("d", 4))
        self.assertEqual((table.live, table.filled, table.entry_at(3), table.mark, table.changes), (3, 4, None, 5, 5))
        table.drop("a")
        self.assertEqual([table.pop_last(), table.pop_last()], [("c", 3), (key, 2)])
        self.assertEqual((table.live, table.filled, table.layout()[2]), (0, 4, (None,) * 4))
        self.unchanged(table, Empty, table.pop_last)
        self.refused(Empty, Table().pop_last)

    def test_a_lower_limit(self):
        table = Small([(1, "a"), (2, "b"), (3, "c")])
        self.assertEqual(self.unchanged(table, TooLarge, table.put, 4, "d"), 3)
        self.assertEqual(self.unchanged(table, TooLarge, table.set_default, 4), 3)
        self.assertEqual(self.unchanged(table, TooLarge, table.merge, [(4, "d")]), 3)
        self.assertEqual(self.unchanged(table, TooLarge, table.merge, Table([(4, "d")])), 3)
        self.assertEqual(self.unchanged(table, TooLarge, table.merge, x=1), 3)
        table.put(3, "new")
        self.assertEqual((table.set_default(2), table.take(4), table.take(1)), ("b", None, "a"))
        table.put(4, "d")
        self.assertEqual(list(table.each_key()), [2, 3, 4])

    def test_the_limit_comes_before_a_rebuild(self):
        table = Small([(1, "a"), (2, "b"), (3, "c")])
        table.drop(1)
        table.put(1, "a")
        table.drop(2)
        table.put(2, "b")
        self.assertEqual((table.live, table.room), (3, 0))
        self.unchanged(table, TooLarge, table.put, 4, "d")


class SizeCalls(Case):
    def test_clear(self):
        table = Table([(number, 0) for number in range(6)])
        self.assertEqual((table.size, table.mark, table.changes), (16, 7, 6))
        self.assertIsNone(table.clear())
        self.assertEqual(table.layout(), (8, (-1,) * 8, (), 8))
        self.assertEqual((table.live, table.filled, table.room, table.changes), (0, 0, 5, 7))

    def test_clear_of_an_empty_table(self):
        table = Table()
        self.assertIsNone(table.clear())
        self.assertEqual(look(table), EMPTY_LOOK)

    def test_clear_of_a_table_with_holes_alone(self):
        table = Table([("a", 1)])
        table.drop("a")
        table.clear()
        self.assertEqual(table.layout(), (8, (-1,) * 8, (), 3))
        self.assertEqual(table.changes, 2)

    def test_clear_of_an_empty_table_with_another_size(self):
        table = Table()
        table.reserve(6)
        table.clear()
        self.assertEqual(table.layout(), (8, (-1,) * 8, (), 2))
        self.assertEqual(table.changes, 0)

    def test_compact(self):
        table = holed()
        self.assertIsNone(table.compact())
        # Codes 8 and 16 are placed anew, in the first two slots of the path 0, 1.
        self.assertEqual(table.layout(), (8, (0, 1) + (-1,) * 6, ((8, 8, "b"), (16, 16, "d")), 7))
        self.assertEqual((table.room, table.changes), (3, 6))
        before = look(table)
        self.assertIsNone(table.compact())
        self.assertEqual(look(table), before)

    def test_compact_where_no_slot_is_a_hole(self):
        table = Table([(0, 1)])
        table.drop(0)
        table.put(0, 2)
        self.assertEqual(table.layout()[1:3], ((1,) + (-1,) * 7, (None, (0, 0, 2))))
        table.compact()
        self.assertEqual(table.layout(), (8, (0,) + (-1,) * 7, ((0, 0, 2),), 4))

    def test_shrink(self):
        table = Table([(number, 0) for number in range(11)])
        self.assertEqual(table.size, 32)
        before = look(table)
        self.assertIsNone(table.shrink())
        self.assertEqual(look(table), before)
        table.drop(0)
        table.shrink()
        self.assertEqual((table.size, table.live, table.filled, table.mark, table.changes), (16, 10, 10, 15, 12))
        self.assertEqual(table.layout()[1], (-1,) + tuple(range(10)) + (-1,) * 5)

    def test_shrink_keeps_holes_where_the_size_stays(self):
        table = holed()
        before = look(table)
        table.shrink()
        self.assertEqual(look(table), before)

    def test_shrink_of_an_empty_table(self):
        table = Table()
        table.reserve(600)
        self.assertEqual((table.size, table.mark), (1024, 1))
        table.shrink()
        self.assertEqual((table.size, table.mark, table.changes), (8, 2, 0))

    def test_reserve(self):
        for many, size, mark in [(0, 8, 0), (5, 8, 0), (6, 16, 1), (10, 16, 1), (11, 32, 1), (600, 1024, 1)]:
            table = Table()
            self.assertIsNone(table.reserve(many=many))
            self.assertEqual((table.size, table.mark, table.changes), (size, mark, 0))

    def test_reserve_counts_the_entries_that_are_there(self):
        table = Table([(0, "a"), (1, "b"), (2, "c")])
        table.reserve(5)
        self.assertEqual((table.size, table.mark), (8, 3))
        table.reserve(2)
        self.assertEqual((table.size, table.mark), (8, 3))
        table.reserve(6)
        self.assertEqual(table.layout()[:2], (16, (0, 1, 2) + (-1,) * 13))
        self.assertEqual((table.mark, table.changes), (4, 3))

    def test_reserve_leaves_holes_out_at_the_same_size(self):
        table = holed()
        self.assertEqual((table.live, table.room), (2, 1))
        table.reserve(3)
        self.assertEqual((table.filled, table.mark), (4, 6))
        table.reserve(4)
        self.assertEqual((table.filled, table.size, table.room, table.mark, table.changes), (2, 8, 3, 7, 6))

    def test_reserve_may_make_the_table_smaller(self):
        table = Table([(number, 0) for number in range(10)])
        for number in range(9):
            table.drop(number)
        self.assertEqual((table.size, table.live, table.room), (16, 1, 0))
        table.reserve(2)
        self.assertEqual((table.size, table.live, table.filled), (8, 1, 1))

    def test_the_bounds_of_reserve(self):
        table = holed()
        for thing in NO_INTEGERS + [-1, 601, 10 ** 400, -(10 ** 400)]:
            self.unchanged(table, BadSize, table.reserve, thing)
        small = Small()
        small.reserve(600)
        self.assertEqual(small.size, 1024)


class ByIndex(Case):
    def test_entry_at(self):
        table = holed()
        self.assertEqual([table.entry_at(index) for index in range(4)], [None, (8, 8, "b"), None, (16, 16, "d")])
        self.assertEqual(table.entry_at(index=1), (8, 8, "b"))
        self.assertIs(type(table.entry_at(1)), tuple)
        for thing in NO_INTEGERS + [-1, -4, 4, 5, 10 ** 400]:
            self.assertIs(self.unchanged(table, NoEntry, table.entry_at, thing), thing)
        self.assertEqual(self.refused(NoEntry, Table().entry_at, 0), 0)

    def test_slot_at(self):
        table = holed()
        self.assertEqual([table.slot_at(slot) for slot in range(8)], [-2, 1, -1, -2, -1, -1, 3, -1])
        self.assertEqual(table.slot_at(slot=6), 3)
        for thing in NO_INTEGERS + [-1, -8, 8, 16, 10 ** 400]:
            self.assertIs(self.unchanged(table, NoEntry, table.slot_at, thing), thing)
        table.reserve(10)
        self.assertEqual(table.slot_at(15), -1)

    def test_replace_at(self):
        table, value = holed(), ["v"]
        mark = table.mark
        self.assertIsNone(table.replace_at(3, value))
        self.assertIs(table.entry_at(3)[2], value)
        table.replace_at(value=5, index=1)
        self.assertEqual(list(table.each_pair()), [(8, 5), (16, value)])
        self.assertEqual((table.mark, table.changes), (mark, mark))
        for thing in NO_INTEGERS + [-1, 0, 2, 4, 10 ** 400]:
            self.assertIs(self.unchanged(table, NoEntry, table.replace_at, thing, 1), thing)

    def test_remove_at(self):
        table = holed()
        self.assertIsNone(table.remove_at(1))
        self.assertEqual(table.layout()[1], (-2, -2, -1, -2, -1, -1, 3, -1))
        self.assertEqual((table.live, table.filled, table.mark, table.changes), (1, 4, 7, 7))
        for thing in NO_INTEGERS + [-1, 0, 1, 2, 4, 10 ** 400]:
            self.assertIs(self.unchanged(table, NoEntry, table.remove_at, thing), thing)
        table.remove_at(index=3)
        self.assertEqual((table.live, list(table.each_key())), (0, []))

    def test_no_key_is_asked(self):
        trace = Trace()
        keys = [quiet_key("k", 5, trace), quiet_key("k", 5, trace)]
        table = Table([(keys[0], 1)])
        noted = trace.events()
        table.replace_at(0, 2)
        self.assertEqual(table.entry_at(0), (keys[0], 5, 2))
        table.remove_at(0)
        table.put(keys[1], 3)
        noted.append(("code", "k"))
        table.reserve(20)
        table.compact()
        table.shrink()
        copy = table.copy()
        self.assertTrue(table.same_pairs(copy))
        self.assertEqual((copy.layout()[2], copy.pop_last()), (((keys[1], 5, 3),), (keys[1], 3)))
        list(table.each_key())
        self.assertEqual(trace.events(), noted)


class Copies(Case):
    def test_a_copy(self):
        table, value = holed(), ["v"]
        table.put(8, value)
        copy = table.copy()
        self.assertEqual(copy.layout(), (8, (0, 1) + (-1,) * 6, ((8, 8, value), (16, 16, "d")), 0))
        self.assertEqual((copy.live, copy.filled, copy.room, copy.changes, copy.is_held), (2, 2, 3, 0, False))
        self.assertIs(copy.fetch(8), value)
        self.assertEqual((table.filled, table.mark), (4, 6))

    def test_the_size_stays(self):
        table = Table([(1, 2)])
        table.reserve(100)
        self.assertEqual((table.copy().size, table.copy().layout()[1][:3]), (256, (-1, 0, -1)))
        self.assertEqual(look(Table().copy()), EMPTY_LOOK)

    def test_both_go_their_own_ways(self):
        table = Table([(1, "a"), (2, "b")])
        copy = table.copy()
        copy.drop(1)
        copy.put(2, "new")
        table.put(3, "c")
        self.assertEqual(list(table.each_pair()), [(1, "a"), (2, "b"), (3, "c")])
        self.assertEqual(list(copy.each_pair()), [(2, "new")])

    def test_the_class_of_a_copy(self):
        small = Small([(1, 1), (2, 2), (3, 3)])
        self.assertIs(type(small.copy()), Table)
        self.assertEqual(small.copy().MAX_LIVE, 600)

    def test_same_pairs(self):
        key = Key("k", 5)
        table = Table([(key, 1), ("a", 2)])
        for pairs in ([(key, 1), ("a", 2)], [(key, 1.0), ("a", 2)]):
            self.assertIs(table.same_pairs(other=Table(pairs)), True)
        self.assertIs(table.same_pairs(table), True)
        self.assertIs(Table().same_pairs(Table()), True)
        self.assertIs(table.same_pairs(Small([(key, 1), ("a", 2)])), True)
        for pairs in ([("a", 2), (key, 1)], [(key, 1)], [(key, 1), ("a", 3)], [(key, 1), ("b", 2)], [],
                      [(Key("k", 5), 1), ("a", 2)], [(key, 1), ("a", 2), ("b", 3)]):
            self.assertIs(table.same_pairs(Table(pairs)), False)

    def test_same_pairs_in_other_slots(self):
        table, other = holed(), Table([(8, "b"), (16, "d")])
        other.reserve(50)
        self.assertIs(table.same_pairs(other), True)
        self.assertIs(other.same_pairs(table), True)

    def test_same_pairs_of_what_is_no_table(self):
        for thing in (None, 5, [], (), {}, [("a", 1)], Table):
            self.assertIs(Table().same_pairs(thing), False)
            self.assertIs(Table([("a", 1)]).same_pairs(thing), False)

    def test_own_values_are_compared_with_the_other_ones(self):
        odd = float("nan")
        table = Table([("a", odd)])
        self.assertIs(table.same_pairs(table), False)
        asked = []

        class Noting:
            def __init__(self, name):
                self.name = name

            def __eq__(self, other):
                asked.append((self.name, other.name))
                return 1

        self.assertIs(Table([("a", Noting("own"))]).same_pairs(Table([("a", Noting("other"))])), True)
        self.assertEqual(asked, [("own", "other")])


class Generators(Case):
    def test_in_order_without_holes(self):
        table = holed()
        table.put(3, None)
        self.assertEqual(list(table.each_key()), [8, 16, 3])
        self.assertEqual(list(table.each_pair()), [(8, "b"), (16, "d"), (3, None)])
        self.assertEqual(list(table.each_value()), ["b", "d", None])

    def test_they_are_generators(self):
        table = Table([("a", 1), ("b", 2)])
        for walk, first in [(table.each_key(), "a"), (table.each_pair(), ("a", 1)), (table.each_value(), 1)]:
            self.assertEqual(next(walk), first)
            self.assertIs(iter(walk), walk)
        for call in (Table().each_key, Table().each_pair, Table().each_value):
            self.assertEqual(list(call()), [])
