"""Points 60 and 62: JournaledTable, its mixtures with BoundedTable, and which class acts first."""

from entryhall.cursors import Cursor, drain
from entryhall.errors import Absent, BadKey, Fault, Missing, TableError, TooLarge
from entryhall.family import (
    BoundedJournaled,
    BoundedTable,
    DefaultTable,
    JournaledBounded,
    JournaledTable,
    Numbering,
    OrderedTable,
    RecentTable,
)
from entryhall.table import Table
from entryhall.unruly import DriftingKey, FailingKey, Key
from tests.helpers import Case, look
from tests.test_histories import PLAIN, Numbers


class Mine(JournaledTable, RecentTable):
    """Journaled last, behind a table with moves and a bound."""


class Other(OrderedTable, BoundedJournaled):
    """The bound acts last, whatever stands before it."""


class Third(JournaledBounded, DefaultTable):
    """With a maker, too."""


class Deep(Mine, DefaultTable):
    """A class below one of these."""


def replayed(records):
    """The pairs that a row of records leads to."""
    pairs = []
    for record in records:
        if record[0] == "added":
            pairs.append(record[1:])
        elif record[0] == "cleared":
            assert record[1] == len(pairs)
            pairs = []
        else:
            (at,) = [index for index, pair in enumerate(pairs) if pair[0] == record[1]]
            assert pairs[at][1] == record[2]
            pairs[at:at + 1] = [(record[1], record[3])] if record[0] == "replaced" else []
    return pairs


class Records(Case):
    def written(self, call, *before):
        """The records of a call on a table with the pairs a, 1 and b, 2 and a hole between them."""
        table = JournaledTable([("a", 1), ("x", 0), ("b", 2)])
        table.drop("x")
        for step in before:
            step(table)
        table.forget()
        call(table)
        return table.records

    def test_a_new_table(self):
        self.assertIsInstance(JournaledTable(), Table)
        self.assertEqual(JournaledTable().records, ())
        table = JournaledTable(pairs=[("a", 1), ("b", 2), ("a", 3)])
        self.assertEqual(table.records, (("added", "a", 1), ("added", "b", 2), ("replaced", "a", 1, 3)))
        self.assertEqual(JournaledTable.from_keys(["a"], 5).records, (("added", "a", 5),))
        self.assertEqual(JournaledTable.of(("a", 1)).records, (("added", "a", 1),))

    def test_each_call_that_makes_a_change(self):
        cases = [
            (lambda it: it.put("c", 3), [("added", "c", 3)]),
            (lambda it: it.put("a", 3), [("replaced", "a", 1, 3)]),
            (lambda it: it.put("a", 1), [("replaced", "a", 1, 1)]),
            (lambda it: it.merge([("a", 3), ("c", 4)], d=5),
             [("replaced", "a", 1, 3), ("added", "c", 4), ("added", "d", 5)]),
            (lambda it: it.merge(Table([("b", 3)])), [("replaced", "b", 2, 3)]),
            (lambda it: it.merge(it), [("replaced", "a", 1, 1), ("replaced", "b", 2, 2)]),
            (lambda it: it.set_default("c", 3), [("added", "c", 3)]),
            (lambda it: it.drop("a"), [("removed", "a", 1)]),
            (lambda it: it.take("b"), [("removed", "b", 2)]),
            (lambda it: it.pop_last(), [("removed", "b", 2)]),
            (lambda it: it.clear(), [("cleared", 2)]),
            (lambda it: it.remove_at(0), [("removed", "a", 1)]),
            (lambda it: it.replace_at(2, 9), [("replaced", "b", 2, 9)]),
            (lambda it: list(drain(it)), [("removed", "a", 1), ("removed", "b", 2)]),
        ]
        for call, records in cases:
            self.assertEqual(self.written(call), tuple(records))

    def test_cursors(self):
        def walk(table):
            cursor = Cursor(table)
            cursor.step(), cursor.set_current(5), cursor.step(), cursor.drop_current()

        self.assertEqual(self.written(walk), (("replaced", "a", 1, 5), ("removed", "b", 2)))

    def test_what_writes_nothing(self):
        for call in [lambda it: it.get("a"), lambda it: it.fetch("a"), lambda it: it.has("x"), lambda it: it.take("x"),
                     lambda it: it.set_default("a", 5), lambda it: it.compact(), lambda it: it.reserve(100),
                     lambda it: it.shrink(), lambda it: it.copy(), lambda it: it.hold(), lambda it: it.merge(),
                     lambda it: it.layout(), lambda it: list(drain(it, most=0)), lambda it: it.same_pairs(it)]:
            self.assertEqual(self.written(call), ())
        self.assertEqual(self.written(lambda it: it.clear(), lambda it: list(drain(it))), ())
        self.assertEqual(self.written(lambda it: it.put("c", 0), lambda it: it.clear()), (("added", "c", 0),))

    def test_calls_that_raise(self):
        cases = [lambda it: it.put(True, 1), lambda it: it.drop("x"), lambda it: it.put(FailingKey("f", 1, 1), 0),
                 lambda it: it.reserve(-1), lambda it: it.merge(None), lambda it: it.replace_at(1, 0)]
        for case in cases:
            def call(table):
                with self.assertRaises((TableError, Absent, Fault)):
                    case(table)

            self.assertEqual(self.written(call), ())
        for case in [lambda it: it.put("c", 1), lambda it: it.clear(), lambda it: it.drop("a")]:
            def refused(table):
                with self.assertRaises(Fault):
                    case(table)

            self.assertEqual(self.written(refused, lambda it: it.hold()), ())

    def test_what_comes_before_an_error_is_written(self):
        table = JournaledTable()
        self.refused(BadKey, table.merge, [("a", 1), (True, 2)])
        self.assertEqual(table.records, (("added", "a", 1),))

    def test_growth_writes_the_addition_alone(self):
        table = JournaledTable([(number, 0) for number in range(6)])
        self.assertEqual((table.size, len(table.records), table.records[-1]), (16, 6, ("added", 5, 0)))

    def test_the_stored_key(self):
        one, same, value = Key("k", 5), Key("k", 5), []
        table = JournaledTable([(one, value)])
        table.put(same, 2)
        table.drop(same)
        self.assertEqual(table.records, (("added", one, []), ("replaced", one, [], 2), ("removed", one, 2)))
        self.assertIs(table.records[0][2], value)
        drifting = DriftingKey("d", (0, 3))
        table = JournaledTable([(drifting, 1), (drifting, 2)])
        self.assertEqual(table.records, (("added", drifting, 1), ("added", drifting, 2)))

    def test_forget(self):
        table = JournaledTable([("a", 1)])
        records, before = table.records, look(table)
        self.assertIsNone(table.forget())
        self.assertEqual((table.records, records, look(table)), ((), (("added", "a", 1),), before))
        table.put("b", 2)
        self.assertEqual(table.records, (("added", "b", 2),))
        table.hold()
        table.forget()
        self.assertEqual(table.records, ())

    def test_a_tuple_that_was_read_stays(self):
        table = JournaledTable([("a", 1)])
        records = table.records
        self.assertIs(type(records), tuple)
        table.clear()
        self.assertEqual((records, len(table.records)), ((("added", "a", 1),), 2))
        with self.assertRaises(AttributeError):
            table.records = ()

    def test_a_copy_has_no_records(self):
        for made in (JournaledTable, JournaledBounded, BoundedJournaled):
            copy = made([("a", 1)]).copy()
            self.assertIs(type(copy), Table)


class WhoActsFirst(Case):
    def both(self, *calls, bound=2):
        tables = []
        for made in (JournaledBounded, BoundedJournaled):
            table = made([("a", 1), ("b", 2)], bound=bound)
            table.forget()
            for call in calls:
                call(table)
            tables.append(table)
        one, other = tables
        self.assertEqual(list(one.each_pair()), list(other.each_pair()))
        self.assertEqual((one.evicted, one.layout()), (other.evicted, other.layout()))
        return one.records, other.records

    def test_the_examples_of_the_document(self):
        one = JournaledBounded([("a", 1), ("b", 2)], bound=1)
        self.assertEqual(one.records, (("added", "a", 1), ("removed", "a", 1), ("added", "b", 2)))
        self.assertEqual(one.evicted, (("a", 1),))
        other = BoundedJournaled([("a", 1), ("b", 2)], bound=1)
        self.assertEqual(other.records, (("added", "a", 1), ("added", "b", 2), ("removed", "a", 1)))

    def test_classes_above(self):
        for made in (JournaledBounded, BoundedJournaled):
            self.assertTrue(issubclass(made, JournaledTable) and issubclass(made, BoundedTable))

    def test_an_addition(self):
        one, other = self.both(lambda it: it.put("c", 3))
        self.assertEqual(one, (("removed", "a", 1), ("added", "c", 3)))
        self.assertEqual(other, (("added", "c", 3), ("removed", "a", 1)))

    def test_other_changes_are_written_alike(self):
        for call in [lambda it: it.put("a", 3), lambda it: it.drop("a"), lambda it: it.clear(),
                     lambda it: it.pop_last(), lambda it: it.set_bound(1), lambda it: it.set_bound(5)]:
            one, other = self.both(call)
            self.assertEqual(one, other)

    def test_set_bound(self):
        one, other = self.both(lambda it: it.set_bound(1), lambda it: it.put("c", 3))
        self.assertEqual(one, (("removed", "a", 1), ("removed", "b", 2), ("added", "c", 3)))
        self.assertEqual(other, (("removed", "a", 1), ("added", "c", 3), ("removed", "b", 2)))

    def test_the_constructor_and_merge(self):
        one, other = self.both(lambda it: it.merge([("c", 3), ("b", 4)], d=5))
        expected = [("removed", "a", 1), ("added", "c", 3), ("replaced", "b", 2, 4), ("removed", "b", 4),
                    ("added", "d", 5)]
        self.assertEqual(one, tuple(expected))
        expected = [expected[1], expected[0], expected[2], expected[4], expected[3]]
        self.assertEqual(other, tuple(expected))

    def test_too_large_writes_nothing(self):
        for made in (JournaledBounded, BoundedJournaled):
            table = made([(number, 0) for number in range(600)], bound=600)
            table.forget()
            self.assertEqual(self.refused(TooLarge, table.put, -1, 0), 600)
            self.assertEqual((table.records, table.evicted), ((), ()))


class Mixtures(Case):
    def test_the_last_base_acts_first(self):
        cases = [(Mine, ["removed", "added"]), (Other, ["added", "removed"]), (Third, ["removed", "added"]),
                 (Deep, ["removed", "added"])]
        for made, words in cases:
            table = made([("a", 1)], bound=1)
            table.forget()
            table.put("b", 2)
            self.assertEqual([record[0] for record in table.records], words)
            self.assertEqual((table.evicted, list(table.each_pair())), ((("a", 1),), [("b", 2)]))

    def test_their_other_methods(self):
        table = Mine([("a", 1), ("b", 2)], bound=2)
        table.forget()
        self.assertEqual((table.fetch("a"), table.move_first("a"), table.place_of("a")), (1, True, 0))
        self.assertEqual(table.records, ())
        table = Other([("a", 1), ("b", 2)], bound=2)
        self.assertEqual((table.move_last("a"), table.at(1), table.pop_first()), (True, ("a", 1), ("b", 2)))
        self.assertEqual(table.records[2:], (("removed", "b", 2),))
        table = Third(bound=2, maker=Numbering(5))
        self.assertEqual((table.fetch("a"), table.has_maker, table.bound), (5, True, 2))
        self.assertEqual(table.records, (("added", "a", 5),))
        self.assertEqual(self.refused(Missing, Third([("a", 1)]).fetch, "x"), "x")

    def test_their_copies(self):
        for made in (Mine, Other, Third, Deep):
            table = made([("a", 1), ("b", 2)], bound=1)
            self.assertIs(type(table.copy()), Table)
            self.assertEqual(list(table.copy().each_pair()), [("b", 2)])

    def test_records_replay_to_the_pairs(self):
        for made in (JournaledTable, JournaledBounded, BoundedJournaled, Mine, Other, Third):
            numbers, table = Numbers(7), made()
            for number in range(250):
                key, kind = PLAIN[numbers.below(len(PLAIN))], numbers.below(12)
                if kind < 7:
                    table.put(key, number % 3)
                elif kind < 9:
                    table.take(key)
                elif kind == 9 and isinstance(table, BoundedTable):
                    table.set_bound(1 + numbers.below(9))
                elif kind == 10 and number % 9 == 0:
                    table.clear()
                else:
                    list(drain(table, most=numbers.below(2)))
                # Who writes first changes the order of records, but not where they lead.
                self.assertEqual(replayed(table.records), list(table.each_pair()))
