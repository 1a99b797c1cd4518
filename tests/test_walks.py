"""Points 20 to 25 and 40 to 43: CodeCursor, walks and drains in the interface, "entryhall/cursors.py"."""

from entryhall.cursors import CodeCursor, Cursor, drain, walk_items, walk_keys, walk_slots
from entryhall.errors import BadCode, BadSize, BadView, ChangedKeys, ChangedSize, Empty, Locked, NoEntry
from entryhall.table import Table
from entryhall.unruly import DriftingKey, Key, Trace, TracedKey
from tests.helpers import NO_INTEGERS, Case, look
from tests.test_cursors import NO_TABLES, Cursors, holed, state

LAST = 4294967295


def coded():
    """A table with the keys and codes 5, 70, 3, 300, 4294967295 and 0, and holes between them."""
    table = Table([(5, "a"), (70, "b"), (9, "gone"), (3, "c"), (300, "d"), (-1, "e"), (8, "gone"), (0, "f")])
    table.drop(9)
    table.drop(8)
    return table


class NewCodeCursors(Cursors):
    def test_below_cursor(self):
        cursor = CodeCursor(coded(), 0, 9)
        self.assertIsInstance(cursor, Cursor)
        self.assertEqual(state(cursor), (0, False, False))

    def test_bounds(self):
        for low, high in [(0, 0), (0, LAST), (LAST, LAST), (LAST, 0), (3, 70)]:
            cursor = CodeCursor(table=coded(), low=low, high=high, backwards=True)
            self.assertEqual(cursor.bounds, (low, high))
        with self.assertRaises(AttributeError):
            cursor.bounds = (1, 2)
        with self.assertRaises(TypeError):
            CodeCursor(coded(), 0, 1, True)
        with self.assertRaises(TypeError):
            CodeCursor(coded(), 0, 1, start=0)

    def test_errors_in_their_order(self):
        for bad in NO_INTEGERS + [-1, LAST + 1, 10 ** 40]:
            self.refused(BadCode, CodeCursor, coded(), bad, 5)
            self.refused(BadCode, CodeCursor, coded(), 5, bad)
            for thing in NO_TABLES:
                self.refused(BadView, CodeCursor, thing, bad, bad)
        with self.assertRaises(BadCode) as caught:
            CodeCursor(coded(), -1, 5)
        self.assertTrue(caught.exception.reason)


class CodeCursors(Cursors):
    def given(self, low, high, backwards=False):
        cursor, given = CodeCursor(coded(), low, high, backwards=backwards), []
        while True:
            pair = cursor.step()
            if pair is None:
                return given
            given.append((pair[1], cursor.position))

    def test_steps_and_the_positions_behind_them(self):
        self.assertEqual(self.given(0, LAST), [("a", 1), ("b", 2), ("c", 3), ("d", 4), ("e", 5), ("f", 6)])
        self.assertEqual(self.given(3, 70), [("a", 1), ("b", 2), ("c", 3)])
        self.assertEqual(self.given(3, 70, True), [("c", 4), ("b", 5), ("a", 6)])
        self.assertEqual(self.given(0, 3), [("c", 3), ("f", 6)])
        self.assertEqual(self.given(300, LAST, True), [("e", 2), ("d", 3)])
        self.assertEqual(self.given(0, 0), [("f", 6)])
        self.assertEqual(self.given(LAST, LAST), [("e", 5)])
        self.assertEqual(self.given(71, 299), [])
        self.assertEqual(self.given(70, 5), [])

    def test_the_end(self):
        cursor = CodeCursor(coded(), 70, 70)
        self.assertEqual((cursor.step(), cursor.position), ((70, "b"), 2))
        self.assertEqual((cursor.peek(), cursor.left(), state(cursor)), (None, 0, (2, False, False)))
        self.assertEqual(cursor.current(), (70, "b"))
        self.assertIsNone(cursor.step())
        self.assertEqual(state(cursor), (6, True, False))

    def test_peek_left_take_many_skip(self):
        cursor = CodeCursor(coded(), 3, 300)
        self.assertEqual((cursor.peek(), cursor.left()), ((5, "a"), 4))
        self.assertEqual((cursor.skip(2), cursor.position, cursor.left()), (2, 2, 2))
        self.assertEqual(cursor.peek(), (3, "c"))
        self.assertEqual(cursor.take_many(2), [(3, "c"), (300, "d")])
        self.assertEqual(state(cursor), (4, False, False))
        self.assertEqual((cursor.take_many(1), state(cursor)), ([], (6, True, False)))
        cursor.restart()
        self.assertEqual((cursor.skip(9), state(cursor)), (4, (6, True, False)))

    def test_restart_at_a_position(self):
        table = coded()
        cursor = CodeCursor(table, 3, 300)
        cursor.restart(start=1)
        self.assertEqual((cursor.left(), cursor.step(), cursor.position), (3, (70, "b"), 2))
        self.assertEqual(self.stays(cursor, table, NoEntry, cursor.restart, start=7), 7)
        cursor.restart(start=6)
        self.assertEqual((cursor.left(), cursor.has_ended), (0, False))

    def test_current_entries(self):
        table = coded()
        cursor = CodeCursor(table, 4, 300, backwards=True)
        self.stays(cursor, table, Empty, cursor.current)
        cursor.step()
        cursor.set_current("new")
        self.assertEqual((cursor.current(), cursor.position), ((300, "new"), 3))
        self.assertEqual((cursor.drop_current(), cursor.position), ((300, "new"), 2))
        self.assertEqual((cursor.step(), cursor.position), ((70, "b"), 4))
        self.assertEqual(table.live, 5)

    def test_stale(self):
        table = coded()
        cursor = CodeCursor(table, 300, 300)
        table.drop(5)
        for call in (cursor.step, cursor.peek, cursor.left, lambda: cursor.take_many(1), lambda: cursor.skip(0)):
            self.assertEqual(self.stays(cursor, table, ChangedSize, call), 6)
        table.put(5, 0)
        self.stays(cursor, table, ChangedKeys, cursor.step)
        cursor.restart()
        self.assertEqual((cursor.step(), cursor.position), ((300, "d"), 3))

    def test_twin(self):
        table = coded()
        cursor = CodeCursor(table, 3, 70, backwards=True)
        cursor.step()
        twin = cursor.twin()
        self.assertIs(type(twin), CodeCursor)
        self.assertEqual((twin.bounds, state(twin), twin.current()), ((3, 70), (4, False, False), (3, "c")))
        self.assertEqual(twin.take_many(5), [(70, "b"), (5, "a")])
        self.assertEqual((cursor.peek(), cursor.has_ended), ((70, "b"), False))
        self.assertEqual(state(twin.twin()), (6, True, False))
        table.put("z", 0)
        self.assertEqual(self.stays(cursor.twin(), table, ChangedSize, cursor.twin().step), 6)

    def test_the_stored_codes_count(self):
        trace = Trace()
        table = Table([(DriftingKey("d", (3, 90)), "d"), (TracedKey("t", 90, trace), "t"), ("a", "plain")])
        events = trace.events()
        cursor = CodeCursor(table, 0, 89)
        self.assertEqual([pair[1] for pair in cursor.take_many(9)], ["d"])
        self.assertEqual(trace.events(), events)


class Walks(Case):
    def test_forwards_and_backwards(self):
        table = holed()
        self.assertEqual(list(walk_keys(table)), ["b", "d", "e"])
        self.assertEqual(list(walk_keys(table, backwards=True)), ["e", "d", "b"])
        self.assertEqual(list(walk_items(table=table)), [("b", 2), ("d", 4), ("e", 5)])
        self.assertEqual(list(walk_items(table, backwards=True)), [("e", 5), ("d", 4), ("b", 2)])
        for walk in (walk_keys, walk_items, walk_slots):
            self.assertEqual(list(walk(Table())), [])
            made = walk(table)
            self.assertIsNotNone(next(made))

    def test_slots(self):
        # Codes 0, 8, 16 and 24 go along 0, 1, 6, 7.
        table = Table([(0, "a"), (8, "b"), (16, "c"), (3, "d"), (24, "e")])
        table.drop(8)
        self.assertEqual(list(walk_slots(table)), [(0, 0), (3, 3), (6, 2), (7, 4)])
        table.compact()
        self.assertEqual(list(walk_slots(table=table)), [(0, 0), (1, 1), (3, 2), (6, 3)])

    def test_the_very_keys_and_values(self):
        key, value = Key("k", 1), []
        table = Table([(key, value)])
        self.assertIs(next(walk_keys(table)), key)
        self.assertIs(next(walk_items(table))[1], value)

    def test_errors_when_they_are_iterated(self):
        for walk in (walk_keys, walk_items, walk_slots, drain):
            for thing in NO_TABLES:
                made = walk(thing)
                self.refused(BadView, next, made)
        with self.assertRaises(TypeError):
            walk_keys(Table(), True)

    def test_no_key_is_asked(self):
        trace = Trace()
        table = Table([(TracedKey(label, 0, trace), 0) for label in "abc"])
        events = trace.events()
        list(walk_keys(table)), list(walk_items(table, backwards=True)), list(walk_slots(table)), list(drain(table))
        self.assertEqual((trace.events(), table.live), (events, 0))


class Drains(Case):
    def test_everything(self):
        for most in (None, 3, 4, 10 ** 30):
            table = holed()
            self.assertEqual(list(drain(table, most=most)), [("b", 2), ("d", 4), ("e", 5)])
            self.assertEqual((table.live, table.filled, table.mark, table.changes), (0, 6, 13, 12))

    def test_less(self):
        table = holed()
        before = look(table)
        self.assertEqual(list(drain(table, most=0)), [])
        self.assertEqual(look(table), before)
        self.assertEqual(list(drain(table=table, most=2)), [("b", 2), ("d", 4)])
        self.assertEqual(list(table.each_pair()), [("e", 5)])
        self.assertEqual(list(drain(Table())), [])

    def test_each_entry_is_removed_when_it_is_requested(self):
        table = holed()
        made = drain(table)
        self.assertEqual((table.live, next(made), table.live, next(made), table.live), (3, ("b", 2), 2, ("d", 4), 1))
        made.close()
        self.assertEqual(list(table.each_key()), ["e"])

    def test_numbers_that_are_none(self):
        table = holed()
        for bad in NO_INTEGERS + [-1, -(10 ** 30)]:
            if bad is not None:
                made = drain(table, most=bad)
                self.unchanged(table, BadSize, next, made)
        self.refused(BadView, next, drain(None, most=-1))

    def test_locked_only_where_something_would_be_removed(self):
        table = holed()
        table.hold()
        for most in (None, 1, 5):
            self.unchanged(table, Locked, next, drain(table, most=most))
        self.assertEqual(list(drain(table, most=0)), [])
        self.unchanged(table, BadSize, next, drain(table, most=-1))
        empty = Table([("a", 1)])
        empty.drop("a")
        empty.hold()
        self.assertEqual((list(drain(empty)), list(drain(empty, most=5))), ([], []))

    def test_locked_in_the_middle(self):
        table = holed()
        made = drain(table, most=2)
        next(made)
        table.hold()
        self.unchanged(table, Locked, next, made)
        table = holed()
        made = drain(table, most=1)
        next(made)
        table.hold()
        self.assertEqual(list(made), [])
