"""Points 2, 23, 25 and 40 to 43, and Cursor in the interface, "entryhall/cursors.py"."""

from entryhall.cursors import Cursor
from entryhall.errors import BadSize, BadView, ChangedKeys, ChangedSize, Empty, Locked, NoEntry
from entryhall.pairs import PairList
from entryhall.table import Table
from entryhall.unruly import Key, Trace, TracedKey
from entryhall.views import KeyView
from tests.helpers import NO_INTEGERS, Case, look
from tests.test_histories import Numbers

NO_TABLES = [None, 5, "ab", True, (), [], [("a", 1)], {}, {"a": 1}, object(), Table, PairList(), KeyView(Table())]

# Each call marked (s), with arguments that are right.
CALLS = [
    ("step", ()),
    ("peek", ()),
    ("left", ()),
    ("take_many", (2,)),
    ("skip", (1,)),
    ("current", ()),
    ("set_current", ("new",)),
    ("drop_current", ()),
]


def holed():
    """A table with the keys b, d, e and the values 2, 4, 5, with holes before, between and behind them."""
    table = Table([("a", 1), ("b", 2), ("c", 3), ("d", 4), ("e", 5)])
    table.put("f", 6)
    for key in "acf":
        table.drop(key)
    return table


def state(cursor):
    return cursor.position, cursor.has_ended, cursor.is_stale


class Cursors(Case):
    def stays(self, cursor, table, error, call, *given, **named):
        """Expect an error of a call that changes neither the cursor nor the table."""
        before = state(cursor), look(table)
        told = self.refused(error, call, *given, **named)
        self.assertEqual((state(cursor), look(table)), before)
        return told


class New(Cursors):
    def test_no_tables(self):
        for thing in NO_TABLES:
            self.refused(BadView, Cursor, thing)
            self.refused(BadView, Cursor, thing, start=-1)

    def test_starts(self):
        table = holed()
        for start in range(4):
            cursor = Cursor(table, start=start)
            self.assertEqual(state(cursor), (start, False, False))
        for bad in NO_INTEGERS + [-1, 4, 5, 10 ** 40, -(10 ** 40)]:
            self.assertIs(self.refused(NoEntry, Cursor, table, start=bad), bad)
        self.assertEqual(state(Cursor(table=Table(), backwards=True, start=0)), (0, False, False))
        self.assertEqual(self.refused(NoEntry, Cursor, Table(), start=1), 1)

    def test_parameters_behind_the_star_go_by_name(self):
        with self.assertRaises(TypeError):
            Cursor(Table(), True)

    def test_the_table_is_left_alone(self):
        table = holed()
        before = look(table)
        cursor = Cursor(table)
        for name, given in CALLS[:6]:
            if name != "current":
                getattr(cursor, name)(*given)
        self.assertEqual(look(table), before)

    def test_properties_cannot_be_set(self):
        for name in ("position", "has_ended", "is_stale"):
            with self.assertRaises(AttributeError):
                setattr(Cursor(Table()), name, 0)

    def test_no_key_is_asked(self):
        trace = Trace()
        table = Table([(TracedKey(label, 0, trace), label) for label in "abc"])
        events = trace.events()
        cursor = Cursor(table, backwards=True)
        cursor.step(), cursor.set_current(1), cursor.drop_current(), cursor.peek(), cursor.left(), cursor.skip(5)
        cursor.restart(), cursor.twin().take_many(1)
        self.assertEqual(trace.events(), events)


class Steps(Cursors):
    def test_forwards(self):
        value = []
        table = holed()
        table.put("b", value)
        cursor, seen = Cursor(table), []
        for position in range(1, 4):
            seen.append(cursor.step())
            self.assertEqual(state(cursor), (position, False, False))
        self.assertEqual(seen, [("b", []), ("d", 4), ("e", 5)])
        self.assertIs(seen[0][1], value)
        for _ in range(3):
            self.assertIsNone(cursor.step())
            self.assertEqual(state(cursor), (3, True, False))

    def test_backwards(self):
        cursor = Cursor(holed(), backwards=True)
        self.assertEqual([cursor.step() for _ in range(4)], [("e", 5), ("d", 4), ("b", 2), None])
        self.assertEqual(state(cursor), (3, True, False))

    def test_from_each_start(self):
        pairs = [("b", 2), ("d", 4), ("e", 5)]
        for backwards in (False, True):
            ordered = pairs[::-1] if backwards else pairs
            for start in range(4):
                cursor = Cursor(holed(), backwards=backwards, start=start)
                self.assertEqual(cursor.left(), 3 - start)
                self.assertEqual([cursor.step() for _ in range(4 - start)], ordered[start:] + [None])

    def test_an_empty_table(self):
        for table in (Table(), Table([("a", 1)])):
            table.take("a")
            cursor = Cursor(table)
            self.assertEqual((cursor.peek(), cursor.left(), cursor.has_ended), (None, 0, False))
            self.assertIsNone(cursor.step())
            self.assertEqual(state(cursor), (0, True, False))

    def test_peek(self):
        cursor = Cursor(holed())
        self.assertEqual([cursor.peek(), cursor.peek(), cursor.step(), cursor.peek()],
                         [("b", 2), ("b", 2), ("b", 2), ("d", 4)])
        self.assertEqual((cursor.current(), cursor.position), (("b", 2), 1))
        cursor.skip(2)
        self.assertIsNone(cursor.peek())
        self.assertEqual(state(cursor), (3, False, False))
        self.assertEqual(cursor.current(), ("e", 5))
        cursor.step()
        self.assertEqual((cursor.peek(), cursor.left()), (None, 0))

    def test_left(self):
        cursor = Cursor(holed())
        self.assertEqual(cursor.left(), 3)
        cursor.step()
        self.assertEqual(cursor.left(), 2)
        cursor.skip(2)
        self.assertEqual((cursor.left(), cursor.has_ended), (0, False))
        cursor.step()
        self.assertEqual((cursor.left(), cursor.has_ended), (0, True))

    def test_take_many(self):
        for most, pairs, position, ended in [(0, [], 0, False), (1, [("b", 2)], 1, False),
                                             (3, [("b", 2), ("d", 4), ("e", 5)], 3, False),
                                             (4, [("b", 2), ("d", 4), ("e", 5)], 3, True),
                                             (10 ** 30, [("b", 2), ("d", 4), ("e", 5)], 3, True)]:
            cursor, other = Cursor(holed()), Cursor(holed())
            self.assertEqual(cursor.take_many(most=most), pairs)
            self.assertEqual(state(cursor), (position, ended, False))
            self.assertEqual(other.skip(many=most), len(pairs))
            self.assertEqual(state(other), (position, ended, False))
        self.assertEqual((cursor.take_many(5), cursor.skip(5), other.take_many(0)), ([], 0, []))

    def test_take_many_of_none_keeps_the_current_entry(self):
        cursor = Cursor(holed())
        cursor.step()
        self.assertEqual((cursor.take_many(0), cursor.skip(0), cursor.current()), ([], 0, ("b", 2)))

    def test_numbers_that_are_none(self):
        table = holed()
        cursor = Cursor(table)
        cursor.step()
        for bad in NO_INTEGERS + [-1, -(10 ** 40)]:
            self.stays(cursor, table, BadSize, cursor.take_many, bad)
            self.stays(cursor, table, BadSize, cursor.skip, bad)
        self.assertEqual(cursor.current(), ("b", 2))

    def test_lists_are_new(self):
        cursor = Cursor(holed())
        cursor.twin().take_many(2).clear()
        self.assertEqual(cursor.take_many(2), [("b", 2), ("d", 4)])


class Current(Cursors):
    def test_the_current_entry(self):
        table = holed()
        for backwards in (False, True):
            cursor = Cursor(table, backwards=backwards)
            self.stays(cursor, table, Empty, cursor.current)
            for _ in range(3):
                pair = cursor.step()
                self.assertEqual((cursor.current(), cursor.current()), (pair, pair))
            cursor.step()
            self.stays(cursor, table, Empty, cursor.current)

    def test_a_start_makes_no_entry_current(self):
        table = holed()
        for start in range(4):
            cursor = Cursor(table, start=start)
            for name, given in CALLS[5:]:
                self.stays(cursor, table, Empty, getattr(cursor, name), *given)

    def test_set_current(self):
        table, value = holed(), []
        cursor = Cursor(table)
        cursor.skip(2)
        self.assertIsNone(cursor.set_current(value=value))
        self.assertIs(table.fetch("d"), value)
        self.assertIs(cursor.current()[1], value)
        self.assertEqual((table.mark, state(cursor)), (10, (2, False, False)))
        self.assertEqual(cursor.step(), ("e", 5))

    def test_drop_current(self):
        table = holed()
        cursor = Cursor(table)
        cursor.skip(2)
        self.assertEqual(cursor.drop_current(), ("d", 4))
        self.assertEqual((list(table.each_key()), state(cursor)), (["b", "e"], (1, False, False)))
        for name, given in CALLS[5:]:
            self.stays(cursor, table, Empty, getattr(cursor, name), *given)
        self.assertEqual((cursor.left(), cursor.step(), cursor.drop_current()), (1, ("e", 5), ("e", 5)))
        self.assertEqual((cursor.position, cursor.step(), state(cursor)), (1, None, (1, True, False)))

    def test_drop_all_backwards(self):
        table = holed()
        cursor = Cursor(table, backwards=True)
        seen = []
        while cursor.step():
            seen.append(cursor.drop_current())
            self.assertEqual(cursor.position, 0)
        self.assertEqual((seen, table.live), ([("e", 5), ("d", 4), ("b", 2)], 0))
        self.assertEqual(state(cursor), (0, True, False))

    def test_in_every_state(self):
        table = holed()
        cursor = Cursor(table)
        cursor.step()
        cursor.restart(start=1)
        self.stays(cursor, table, Empty, cursor.current)
        cursor.skip(9)
        for name, given in CALLS[5:]:
            self.stays(cursor, table, Empty, getattr(cursor, name), *given)

    def test_held_tables(self):
        table = holed()
        cursor = Cursor(table)
        table.hold()
        # Empty comes before Locked.
        self.stays(cursor, table, Empty, cursor.drop_current)
        cursor.step()
        self.stays(cursor, table, Locked, cursor.drop_current)
        cursor.set_current("new")
        self.assertEqual(cursor.current(), ("b", "new"))
        table.release()
        self.assertEqual((cursor.drop_current(), cursor.position), (("b", "new"), 0))


class Stale(Cursors):
    def all_refuse(self, cursor, table, error, told=None):
        self.assertIs(cursor.is_stale, True)
        for name, given in CALLS:
            reason = self.stays(cursor, table, error, getattr(cursor, name), *given)
            if told is not None:
                self.assertEqual(reason, told)
        for bad in (-1, True, None):
            self.stays(cursor, table, BadSize, cursor.take_many, bad)
            self.stays(cursor, table, BadSize, cursor.skip, bad)

    def test_each_kind_of_change(self):
        changes = [("put", ("z", 9)), ("drop", ("b",)), ("pop_last", ()), ("set_default", ("z",)), ("take", ("e",)),
                   ("clear", ()), ("remove_at", (1,)), ("merge", ([("z", 1)],))]
        for name, given in changes:
            for skipped in range(4):
                table = holed()
                cursor = Cursor(table)
                cursor.skip(skipped)
                getattr(table, name)(*given)
                self.all_refuse(cursor, table, ChangedSize, 3)

    def test_the_noted_live_again(self):
        table = holed()
        cursor = Cursor(table)
        cursor.step()
        table.drop("e")
        self.all_refuse(cursor, table, ChangedSize, 3)
        table.put("e", 5)
        self.all_refuse(cursor, table, ChangedKeys)
        table.put("z", 6)
        self.all_refuse(cursor, table, ChangedSize, 3)

    def test_what_makes_no_cursor_stale(self):
        table = holed()
        cursor = Cursor(table)
        cursor.step()
        table.put("b", 7)
        self.assertEqual(cursor.current(), ("b", 7))
        for change in (table.compact, lambda: table.reserve(100), table.shrink, table.hold, table.release):
            change()
            self.assertEqual((state(cursor), cursor.current()), ((1, False, False), ("b", 7)))
        table.replace_at(1, "new")
        table.merge([("e", "newer")])
        self.assertEqual(cursor.take_many(2), [("d", "new"), ("e", "newer")])
        empty = Table([("a", 1)])
        empty.drop("a")
        cursor = Cursor(empty)
        empty.clear()
        self.assertEqual((empty.filled, cursor.is_stale, cursor.peek()), (0, False, None))

    def test_rebuilds_between_step_and_removal(self):
        table = holed()
        cursor = Cursor(table, backwards=True)
        cursor.skip(2)
        table.compact()
        self.assertEqual(cursor.drop_current(), ("d", 4))
        table.reserve(50)
        self.assertEqual((cursor.step(), cursor.drop_current()), (("b", 2), ("b", 2)))
        self.assertEqual(list(table.each_key()), ["e"])

    def test_an_ended_cursor_is_never_stale(self):
        table = holed()
        cursor = Cursor(table)
        cursor.skip(4)
        for change in (lambda: table.put("z", 1), lambda: table.drop("b"), table.clear):
            change()
            self.assertEqual(state(cursor), (3, True, False))
            self.assertEqual([cursor.step(), cursor.peek(), cursor.left(), cursor.take_many(3), cursor.skip(3)],
                             [None, None, 0, [], 0])
            for name, given in CALLS[5:]:
                self.stays(cursor, table, Empty, getattr(cursor, name), *given)
        self.assertEqual(state(cursor), (3, True, False))

    def test_a_cursor_at_the_end_that_has_not_ended_can_be_stale(self):
        table = holed()
        cursor = Cursor(table, start=3)
        table.put("z", 1)
        self.all_refuse(cursor, table, ChangedSize, 3)

    def test_one_of_several_removes(self):
        table = holed()
        one, other, ended = Cursor(table), Cursor(table, backwards=True), Cursor(table)
        one.step(), other.step(), ended.skip(4)
        one.drop_current()
        self.assertEqual((one.is_stale, other.is_stale, ended.is_stale), (False, True, False))
        self.all_refuse(other, table, ChangedSize, 3)
        self.assertEqual(one.step(), ("d", 4))
        other.restart()
        self.assertEqual((other.step(), other.drop_current()), (("e", 5), ("e", 5)))
        self.all_refuse(one, table, ChangedSize, 2)
        table.put("z", 0)
        self.all_refuse(one, table, ChangedKeys)


class Restarts(Cursors):
    def test_restart(self):
        table = holed()
        cursor = Cursor(table, backwards=True)
        for start in range(4):
            cursor.skip(9)
            table.put(start, start)
            self.assertIsNone(cursor.restart(start=start))
            self.assertEqual(state(cursor), (start, False, False))
            self.assertEqual(cursor.left(), table.live - start)
        cursor.restart()
        self.assertEqual((cursor.position, cursor.step()), (0, (3, 3)))

    def test_a_stale_cursor_is_fresh_again(self):
        table = holed()
        cursor = Cursor(table)
        table.put("z", 9)
        cursor.restart(start=3)
        self.assertEqual((cursor.is_stale, cursor.step()), (False, ("z", 9)))

    def test_bad_starts(self):
        table = holed()
        cursor = Cursor(table)
        cursor.step()
        for bad in NO_INTEGERS + [-1, 4, 10 ** 40]:
            self.assertIs(self.stays(cursor, table, NoEntry, cursor.restart, start=bad), bad)
        self.assertEqual(cursor.current(), ("b", 2))
        table.put("z", 1)
        cursor.restart(start=4)
        table.drop("z")
        # A stale cursor stays stale where the start is refused.
        self.stays(cursor, table, NoEntry, cursor.restart, start=4)
        self.assertIs(cursor.is_stale, True)
        with self.assertRaises(TypeError):
            cursor.restart(0)


class Twins(Cursors):
    def test_twins_in_every_state(self):
        for backwards in (False, True):
            for skipped in range(5):
                table = holed()
                cursor = Cursor(table, backwards=backwards)
                cursor.skip(skipped)
                twin = cursor.twin()
                self.assertIs(type(twin), Cursor)
                self.assertEqual(state(twin), state(cursor))
                self.assertEqual((twin.peek(), twin.left()), (cursor.peek(), cursor.left()))
                if 0 < skipped < 4:
                    self.assertEqual(twin.current(), cursor.current())
                else:
                    self.stays(twin, table, Empty, twin.current)

    def test_both_go_their_own_ways(self):
        table = holed()
        cursor = Cursor(table)
        cursor.step()
        twin = cursor.twin()
        self.assertEqual((twin.step(), cursor.current(), twin.current()), (("d", 4), ("b", 2), ("d", 4)))
        cursor.skip(9)
        self.assertEqual((twin.has_ended, cursor.has_ended, twin.step()), (False, True, ("e", 5)))
        twin.restart()
        self.assertEqual((cursor.position, twin.position), (3, 0))

    def test_a_removal_makes_the_twin_stale(self):
        table = holed()
        cursor = Cursor(table)
        cursor.step()
        twin = cursor.twin()
        twin.drop_current()
        self.assertEqual(self.stays(cursor, table, ChangedSize, cursor.current), 3)
        self.assertEqual(twin.step(), ("d", 4))

    def test_twins_of_a_stale_cursor(self):
        table = holed()
        cursor = Cursor(table)
        cursor.step()
        table.drop("b")
        twin = cursor.twin()
        self.assertEqual(self.stays(twin, table, ChangedSize, twin.step), 3)
        table.put("b", 1)
        self.stays(twin, table, ChangedKeys, twin.step)
        cursor.restart()
        self.assertEqual((cursor.is_stale, twin.is_stale), (False, True))

    def test_twins_of_a_cursor_without_a_current_entry(self):
        table = holed()
        cursor = Cursor(table)
        cursor.skip(2)
        cursor.drop_current()
        twin = cursor.twin()
        self.stays(twin, table, Empty, twin.current)
        self.assertEqual((twin.step(), state(cursor)), (("e", 5), (1, False, False)))


class Long(Cursors):
    def test_histories_against_lists(self):
        for start in range(6):
            numbers = Numbers(start)
            table = Table([(number, number) for number in range(40)])
            for number in range(0, 40, 3):
                table.drop(number)
            backwards = start % 2 == 1
            pairs = list(table.each_pair())[::-1] if backwards else list(table.each_pair())
            cursor, position = Cursor(table, backwards=backwards), 0
            while position < len(pairs):
                kind = numbers.below(6)
                self.assertEqual((cursor.position, cursor.left()), (position, len(pairs) - position))
                if kind < 3:
                    self.assertEqual(cursor.step(), pairs[position])
                    position += 1
                elif kind == 3 and position and cursor.step() == pairs[position]:
                    self.assertEqual(cursor.drop_current(), pairs.pop(position))
                elif kind == 4:
                    [table.compact, table.shrink, lambda: table.reserve(60)][numbers.below(3)]()
                elif kind == 5:
                    many = numbers.below(3)
                    self.assertEqual(cursor.take_many(many), pairs[position:position + many])
                    position = min(position + many, len(pairs))
                    if cursor.has_ended:
                        break
            left = list(table.each_pair())
            self.assertEqual(left[::-1] if backwards else left, pairs)

    def test_a_key_object_is_given_itself(self):
        key = Key("k", 5)
        cursor = Cursor(Table([(key, 1)]))
        self.assertIs(cursor.step()[0], key)
        self.assertIs(cursor.drop_current()[0], key)

    def test_the_example_of_the_document(self):
        table = Table([("a", 1), ("b", 2), ("c", 3)])
        cursor = Cursor(table)
        shown = (cursor.step(), cursor.step(), cursor.drop_current(), cursor.position, cursor.peek())
        self.assertEqual(shown, (("a", 1), ("b", 2), ("b", 2), 1, ("c", 3)))
        table.put("d", 4)
        self.assertEqual(self.refused(ChangedSize, cursor.step), 2)
        table.drop("a")
        self.refused(ChangedKeys, cursor.step)
