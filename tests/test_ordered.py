"""Points 60, 64 and 65: OrderedTable, RecentTable and DefaultRecent."""

from entryhall.audit import faults
from entryhall.cursors import Cursor
from entryhall.errors import BadCode, BadKey, ChangedKeys, CodeFault, Empty, Locked, MatchFault, Missing, NoEntry
from entryhall.family import BoundedTable, DefaultRecent, DefaultTable, Numbering, OrderedTable, RecentTable
from entryhall.table import Table
from entryhall.unruly import FailingKey, Key, MeddlingKey, Trace, TracedKey
from tests.helpers import NO_INTEGERS, Case, look
from tests.test_codes import NO_KEYS
from tests.test_histories import CROWDED, PLAIN, Numbers
from tests.test_lookups import Own, meddled

ORDERED = [OrderedTable, RecentTable, DefaultRecent]
RECENT = [RecentTable, DefaultRecent]


def holed(made=OrderedTable):
    """A table with the entries None, 8, None and 16; room for one more."""
    table = made([(0, "a"), (8, "b"), (3, "c"), (16, "d")])
    table.drop(0)
    table.drop(3)
    return table


def full(made=OrderedTable):
    """The same with the entry 24 behind them, and no room."""
    table = holed(made)
    table.put(24, "e")
    return table


class Moves(Case):
    def test_to_the_end(self):
        for made in ORDERED:
            table = made([(0, "a"), (8, "b"), (3, "c")])
            self.assertIs(table.move_last(0), True)
            # Codes 0 and 8 go along 0, 1, 6: the entry comes back into the slot that it has left.
            entries = (None, (8, 8, "b"), (3, 3, "c"), (0, 0, "a"))
            self.assertEqual(table.layout(), (8, (3, 1, -1, 2, -1, -1, -1, -1), entries, 5))
            self.assertEqual((table.changes, table.live, table.room), (5, 3, 1))

    def test_to_the_end_beside_holes(self):
        for made in ORDERED:
            table = holed(made)
            self.assertIs(table.move_last(key=8), True)
            # The first free slot on the path of 8 is the hole in slot 0.
            entries = (None, None, None, (16, 16, "d"), (8, 8, "b"))
            self.assertEqual(table.layout(), (8, (4, -2, -1, -2, -1, -1, 3, -1), entries, 8))
            self.assertEqual((table.changes, table.room, faults(table.layout())), (8, 0, []))

    def test_to_the_end_without_room(self):
        for made in ORDERED:
            table = full(made)
            self.assertEqual((table.room, table.mark, table.changes), (0, 7, 7))
            self.assertIs(table.move_last(8), True)
            # The rebuild leaves three holes out: 16 and 24 get the slots 0 and 1, and 8 the slot 6.
            entries = ((16, 16, "d"), (24, 24, "e"), (8, 8, "b"))
            self.assertEqual(table.layout(), (8, (0, 1, -1, -1, -1, -1, 2, -1), entries, 10))
            self.assertEqual((table.changes, table.size), (9, 8))

    def test_to_the_end_of_a_full_table_keeps_the_size(self):
        for made in ORDERED:
            table = made([(number, number) for number in range(5)])
            self.assertEqual((table.room, table.size), (0, 8))
            self.assertIs(table.move_last(0), True)
            self.assertEqual((table.size, table.live, table.room, table.mark, table.changes), (8, 5, 0, 8, 7))
            self.assertEqual(list(table.each_key()), [1, 2, 3, 4, 0])
            self.assertEqual(table.layout()[1], (4, 0, 1, 2, 3, -1, -1, -1))

    def test_to_the_front(self):
        for made in ORDERED:
            table = made([(0, "a"), (8, "b"), (3, "c")])
            self.assertIs(table.move_first(3), True)
            entries = ((3, 3, "c"), (0, 0, "a"), (8, 8, "b"))
            self.assertEqual(table.layout(), (8, (1, 2, -1, 0, -1, -1, -1, -1), entries, 4))
            self.assertEqual(table.changes, 4)

    def test_to_the_front_beside_holes(self):
        for made in ORDERED:
            for table, keys in [(holed(made), [16, 8]), (full(made), [16, 8, 24])]:
                mark, changes = table.mark, table.changes
                self.assertIs(table.move_first(key=16), True)
                self.assertEqual(list(table.each_key()), keys)
                self.assertEqual((table.mark, table.changes, table.filled), (mark + 1, changes + 1, len(keys)))
                # The entries are placed in their new order.
                self.assertEqual(table.layout()[1][:2] + (table.slot_at(6),), (0, 1, 2 if len(keys) == 3 else -1))

    def test_an_entry_that_is_there_already(self):
        for made in ORDERED:
            for table, first, last in [(holed(made), 8, 16), (full(made), 8, 24), (made([(1, 1)]), 1, 1)]:
                before = look(table)
                self.assertIs(table.move_first(first), False)
                self.assertIs(table.move_last(last), False)
                table.hold()
                self.assertIs(table.move_first(first), False)
                self.assertIs(table.move_last(last), False)
                table.release()
                self.assertEqual(look(table), before)

    def test_the_last_live_entry_is_the_last_one_before_holes(self):
        for made in ORDERED:
            table = made([("a", 1), ("b", 2), ("c", 3)])
            table.drop("c")
            self.assertEqual((table.move_last("b"), table.move_last("a"), table.move_last("b")), (False, True, True))
            self.assertEqual((list(table.each_key()), table.mark), (["a", "b"], 8))

    def test_the_entry_stays_as_it_was(self):
        for made in ORDERED:
            key, value = Key("k", 5), []
            table = made([(key, value), ("a", 1)])
            table.move_last(Key("k", 5))
            self.assertEqual(table.entry_at(2), (key, 5, value))
            self.assertIs(table.entry_at(2)[2], value)
            table.move_first(Key("k", 5))
            self.assertEqual(table.entry_at(0)[:2], (key, 5))

    def test_errors(self):
        for made in ORDERED:
            table, key = full(made), ("x", 1)
            for call in (table.move_last, table.move_first):
                self.assertIs(self.unchanged(table, Missing, call, key), key)
                table.hold()
                self.assertIs(self.unchanged(table, Missing, call, key), key)
                self.unchanged(table, Locked, call, 16)
                table.release()

    def test_keys_that_are_refused(self):
        for made in ORDERED:
            table = made([("", 0), ("a", 1)])
            for call in (table.move_last, table.move_first, table.place_of):
                for bad in NO_KEYS:
                    self.unchanged(table, BadKey, call, bad)
                self.unchanged(table, BadCode, call, Own(-1, True))
                self.unchanged(table, CodeFault, call, FailingKey("f", 17, 1))
                self.unchanged(table, MatchFault, call, FailingKey("f", 17, 0, 1))

    def test_no_keys_are_asked_beyond_the_lookup(self):
        for made in ORDERED:
            trace = Trace()
            keys = [TracedKey(label, 5, trace) for label in "abc"]
            table = made([(key, 0) for key in keys] + [(number, 0) for number in range(10, 12)])
            start = len(trace.events())
            table.move_last(keys[1])
            table.move_first(keys[2])
            events = [("code", "b"), ("matches", "a", "b"), ("code", "c"), ("matches", "a", "c")]
            self.assertEqual(trace.events()[start:start + 4], events)
            self.assertNotIn("code", [event[0] for event in trace.events()[start + 4:]])
            self.assertLessEqual(len(trace.events()) - start, 5)

    def test_a_key_that_changes_the_table_in_the_lookup(self):
        table = OrderedTable([("a", 1), ("b", 2)])
        meddler = MeddlingKey("m", 5, table, (("drop", "b"), ("put", "c", 3)))
        table.put(meddler, 4)
        self.assertIs(table.move_last(Key("m", 5)), True)
        self.assertEqual(list(table.each_value()), [1, 3, 4])
        table = OrderedTable([("a", 1), ("b", 2)])
        table.put(MeddlingKey("m", 5, table, (("drop", "b"), ("put", "c", 3))), 4)
        self.assertEqual(table.place_of(Key("m", 5)), 1)

    def test_cursors_become_stale(self):
        for made in ORDERED:
            for move in ("move_last", "move_first"):
                table = made([("a", 1), ("b", 2), ("c", 3)])
                cursor = Cursor(table)
                getattr(table, move)("b")
                self.refused(ChangedKeys, cursor.step)

    def test_long_rows_of_moves(self):
        for keys in (PLAIN, CROWDED):
            for start in range(3):
                numbers = Numbers(start)
                table, order = OrderedTable([(key, 0) for key in keys]), list(keys)
                for number in range(200):
                    key, kind = keys[numbers.below(len(keys))], numbers.below(6)
                    if kind == 5 and key in order:
                        table.drop(key)
                        order.remove(key)
                    elif key not in order:
                        table.put(key, 0)
                        order.append(key)
                    else:
                        self.move(table, order, key, kind % 2)
                    self.assertEqual((list(table.each_key()), faults(table.layout())), (order, []))

    def move(self, table, order, key, front):
        at = 0 if front else len(order) - 1
        moved = order[at] != key
        self.assertIs((table.move_first if front else table.move_last)(key), moved)
        order.remove(key)
        order.insert(at, key)


class Places(Case):
    def test_place_of(self):
        for made in ORDERED:
            table = full(made)
            self.assertEqual([table.place_of(key) for key in (8, 16, 24)], [0, 1, 2])
            self.assertEqual(table.place_of(key=16), 1)
            self.assertEqual(self.unchanged(table, Missing, table.place_of, 0), 0)
            table.hold()
            self.assertEqual(table.place_of(24), 2)

    def test_at(self):
        for made in ORDERED:
            table = full(made)
            self.assertEqual([table.at(place) for place in range(3)], [(8, "b"), (16, "d"), (24, "e")])
            self.assertEqual(table.at(place=1), (16, "d"))
            for bad in NO_INTEGERS + [-1, -3, 3, 4, 10 ** 30]:
                self.assertIs(self.unchanged(table, NoEntry, table.at, bad), bad)
            self.assertEqual(self.refused(NoEntry, made().at, 0), 0)

    def test_pop_first(self):
        for made in ORDERED:
            trace = Trace()
            key = TracedKey("t", 5, trace)
            table = made([("gone", 0), (key, 1), ("b", 2)])
            table.drop("gone")
            start, mark = len(trace.events()), table.mark
            self.assertEqual(table.pop_first(), (key, 1))
            self.assertEqual((len(trace.events()), table.filled), (start, 3))
            self.assertEqual((table.mark, table.changes), (mark + 1, mark + 1))
            table.hold()
            self.unchanged(table, Locked, table.pop_first)
            table.release()
            self.assertEqual(table.pop_first(), ("b", 2))
            table.hold()
            self.unchanged(table, Empty, table.pop_first)


class Recent(Case):
    def test_the_classes_above(self):
        self.assertTrue(issubclass(OrderedTable, Table) and issubclass(RecentTable, OrderedTable))
        self.assertTrue(issubclass(RecentTable, BoundedTable) and issubclass(DefaultRecent, RecentTable))
        self.assertTrue(issubclass(DefaultRecent, DefaultTable))
        self.assertEqual((RecentTable().bound, DefaultRecent().bound), (8, 8))

    def test_fetch_moves(self):
        for made in RECENT:
            value = []
            table = made([("a", value), ("b", 2), ("c", 3)], bound=3)
            self.assertIs(table.fetch(key="a"), value)
            self.assertEqual((list(table.each_key()), table.mark, table.changes), (["b", "c", "a"], 5, 5))
            self.assertEqual((table.fetch("a"), table.mark), ([], 5))
            self.assertEqual(table.fetch("b"), 2)
            self.assertEqual(list(table.each_key()), ["c", "a", "b"])

    def test_other_calls_move_nothing(self):
        for made in RECENT:
            table = made([("a", 1), ("b", 2)], bound=2)
            table.get("a"), table.has("a"), table.put("a", 3), table.set_default("a"), table.probe_count("a")
            table.merge([("a", 4)])
            self.assertEqual((list(table.each_pair()), table.mark), ([("a", 4), ("b", 2)], 2))

    def test_a_held_table(self):
        for made in RECENT:
            table = made([("a", 1), ("b", 2)], bound=2)
            table.hold()
            before = look(table)
            self.assertEqual((table.fetch("a"), table.fetch("b"), look(table)), (1, 2, before))
            self.assertEqual(self.unchanged(table, Missing, table.fetch, "x"), "x")
            table.release()
            table.fetch("a")
            self.assertEqual(list(table.each_key()), ["b", "a"])

    def test_evictions_in_the_order_of_use(self):
        for made in RECENT:
            table = made(bound=3)
            for key in "abc":
                table.put(key, key)
            table.fetch("a"), table.fetch("b")
            table.put("d", "d")
            table.fetch("a")
            table.put("e", "e")
            table.put("f", "f")
            self.assertEqual([key for key, _ in table.evicted], ["c", "b", "d"])
            self.assertEqual(list(table.each_key()), ["a", "e", "f"])

    def test_against_a_list(self):
        for made in RECENT:
            for bound in (1, 2, 5):
                numbers, table, order, gone = Numbers(bound), made(bound=bound), [], []
                for number in range(200):
                    key = PLAIN[numbers.below(9)]
                    if key in order and numbers.below(2):
                        table.fetch(key)
                        order.remove(key)
                        order.append(key)
                    else:
                        table.put(key, key)
                        order += [] if key in order else [key]
                    gone += order[:-bound]
                    order = order[-bound:]
                    self.assertEqual(list(table.each_key()), order)
                    self.assertEqual([pair[0] for pair in table.evicted], gone)
                    self.assertEqual(faults(table.layout()), [])

    def test_missing_keys(self):
        for made in RECENT:
            table = made([("a", 1)], bound=2)
            key = ("x", 1)
            self.assertIs(self.unchanged(table, Missing, table.fetch, key), key)
            self.unchanged(table, BadKey, table.fetch, True)
            self.unchanged(table, CodeFault, table.fetch, FailingKey("f", 1, 1))

    def test_one_lookup_with_one_code(self):
        for made in RECENT:
            trace = Trace()
            key = TracedKey("b", 8, trace)
            table = made([(TracedKey("a", 8, trace), 1), (key, 2), ("c", 3)], bound=3)
            start = len(trace.events())
            table.fetch(key)
            self.assertEqual(trace.events()[start:], [("code", "b"), ("matches", "a", "b")])

    def test_disturbed_lookups(self):
        table = RecentTable(meddled(0), bound=600)
        meddler = MeddlingKey("x", 99, table, (("drop", 1), ("drop", 40)))
        table.put(meddler, "found")
        table.put("last", 0)
        self.assertEqual(table.fetch(Key("x", 99)), "found")
        self.assertEqual((table.at(table.live - 1), table.live), ((meddler, "found"), 41))

    def test_with_a_maker(self):
        recent = DefaultRecent(bound=2, maker=Numbering(10))
        told = (recent.fetch("a"), recent.fetch("b"), recent.fetch("a"), recent.fetch("c"), recent.evicted)
        self.assertEqual(told, (10, 11, 10, 12, (("b", 11),)))
        self.assertEqual(list(recent.each_pair()), [("a", 10), ("c", 12)])
        recent.hold()
        self.assertEqual(recent.fetch("a"), 10)
        self.unchanged(recent, Locked, recent.fetch, "x")
        self.assertEqual(list(recent.each_key()), ["a", "c"])

    def test_a_maker_that_puts_the_key_into_a_recent_table(self):
        table = DefaultRecent(bound=2, maker=lambda key: table.put(key, 0) or table.put("other", 0) or "made")
        # The value is put again, which moves nothing.
        self.assertEqual((table.fetch("x"), list(table.each_pair())), ("made", [("x", "made"), ("other", 0)]))

    def test_copies(self):
        for made in ORDERED:
            table = holed(made)
            copy = table.copy()
            self.assertIs(type(copy), Table)
            self.assertEqual((list(copy.each_key()), copy.mark), ([8, 16], 0))
