"""Points 60 and 61: BoundedTable."""

from entryhall.cursors import Cursor, drain
from entryhall.errors import BadKey, BadPairs, BadSize, Locked, Missing, TooLarge
from entryhall.family import BoundedTable, BoundedJournaled, DefaultRecent, JournaledBounded, RecentTable
from entryhall.table import Table
from entryhall.unruly import Trace, TracedKey
from tests.helpers import NO_INTEGERS, Case, look
from tests.test_histories import CROWDED, Numbers

BOUNDED = [BoundedTable, RecentTable, DefaultRecent, JournaledBounded, BoundedJournaled]
BAD_BOUNDS = NO_INTEGERS + [0, -1, 601, 10 ** 30]


class Few(BoundedTable):
    """A table whose limit is as low as its bound can be."""

    MAX_LIVE = 3


def shown(table):
    return list(table.each_pair()), table.evicted


class New(Case):
    def test_an_empty_table(self):
        table = BoundedTable()
        self.assertIsInstance(table, Table)
        self.assertEqual((table.bound, table.evicted, look(table)), (8, (), look(Table())))

    def test_the_bound_holds_while_it_is_made(self):
        pairs = [("a", 1), ("b", 2), ("a", 3), ("c", 4), ("a", 5)]
        for made in BOUNDED:
            self.assertEqual(shown(made(pairs, bound=2)), ([("c", 4), ("a", 5)], (("a", 3), ("b", 2))))
            self.assertEqual(shown(made(tuple(pairs), bound=3)), ([("a", 5), ("b", 2), ("c", 4)], ()))
            self.assertEqual(shown(made(Table(pairs), bound=1)), ([("c", 4)], (("a", 5), ("b", 2))))
            table = made([(number, number) for number in range(10)])
            self.assertEqual((table.bound, table.live, table.evicted), (8, 8, ((0, 0), (1, 1))))

    def test_of_and_from_keys(self):
        for made in BOUNDED:
            pairs = [(number, "v") for number in range(9)]
            for table in (made.of(*pairs), made.from_keys(list(range(9)), "v")):
                self.assertIs(type(table), made)
                self.assertEqual((table.bound, table.live, table.evicted), (8, 8, ((0, "v"),)))

    def test_bounds_that_are_none(self):
        for made in BOUNDED:
            for bad in BAD_BOUNDS:
                self.refused(BadSize, made, bound=bad)
                # BadSize comes before BadPairs and before keys are looked at.
                self.refused(BadSize, made, None, bound=bad)
                self.refused(BadSize, made, [(True, 1)], bound=bad)
            self.assertEqual(self.refused(BadPairs, made, None, bound=5), 0)
            self.refused(BadKey, made, pairs=[(True, 1)], bound=5)

    def test_the_bounds_1_and_600(self):
        self.assertEqual(BoundedTable(bound=1).bound, 1)
        table = BoundedTable([(number, 0) for number in range(600)], bound=600)
        self.assertEqual((table.bound, table.live, table.evicted), (600, 600, ()))

    def test_parameters_behind_the_star_go_by_name(self):
        for given in [([], 5)]:
            with self.assertRaises(TypeError):
                BoundedTable(*given)
        with self.assertRaises(TypeError):
            BoundedTable([], maker=None)

    def test_properties_cannot_be_set(self):
        for name in ("bound", "evicted"):
            with self.assertRaises(AttributeError):
                setattr(BoundedTable(), name, 1)


class Additions(Case):
    def test_each_call_that_adds(self):
        calls = [lambda it: it.put("n", 0), lambda it: it.set_default("n", 0), lambda it: it.merge([("n", 0)]),
                 lambda it: it.merge(n=0), lambda it: it.merge(Table([("n", 0)]))]
        for made in BOUNDED:
            for call in calls:
                table = made([("a", 1), ("b", 2)], bound=2)
                call(table)
                self.assertEqual(shown(table), ([("b", 2), ("n", 0)], (("a", 1),)))
                self.assertEqual((table.mark, table.changes), (4, 4))

    def test_what_adds_nothing_removes_nothing(self):
        table = BoundedTable([("a", 1), ("b", 2)], bound=2)
        table.put("a", 3)
        table.set_default("b", 4)
        table.merge(table, [("b", 5)])
        self.assertEqual(shown(table), ([("a", 3), ("b", 5)], ()))
        table.drop("a")
        table.put("a", 6)
        self.assertEqual(shown(table), ([("b", 5), ("a", 6)], ()))

    def test_set_default_returns_the_value(self):
        value = []
        table = BoundedTable([("a", 1)], bound=1)
        self.assertIs(table.set_default("b", value), value)
        self.assertEqual(table.evicted, (("a", 1),))

    def test_the_layout_worked_out(self):
        table = BoundedTable([(0, "a"), (8, "b")], bound=2)
        table.put(16, "c")
        # Codes 0, 8 and 16 go along 0, 1, 6: the new entry is placed before the first one is removed.
        self.assertEqual(table.layout()[:2], (8, (-2, 1, -1, -1, -1, -1, 2, -1)))
        self.assertEqual(table.layout()[2:], ((None, (8, 8, "b"), (16, 16, "c")), 4))

    def test_bounds_with_codes_that_share_slots(self):
        for bound in range(1, 7):
            table, pairs, gone = BoundedTable(bound=bound), [], []
            numbers = Numbers(bound)
            for number in range(200):
                key = CROWDED[numbers.below(len(CROWDED))]
                if numbers.below(4) == 0:
                    self.assertEqual(table.take(key), dict(pairs).get(key))
                    pairs = [pair for pair in pairs if pair[0] != key]
                    continue
                table.put(key, number)
                if key in dict(pairs):
                    pairs = [(old, number if old == key else value) for old, value in pairs]
                else:
                    pairs.append((key, number))
                gone += pairs[:-bound]
                pairs = pairs[-bound:]
                self.assertEqual(shown(table), (pairs, tuple(gone)))

    def test_removing_asks_no_key(self):
        trace = Trace()
        table = BoundedTable(bound=2)
        for number in range(5):
            table.put(TracedKey("k", number, trace), number)
        self.assertEqual(trace.events(), [("code", "k")] * 5)
        table.set_bound(1)
        self.assertEqual((trace.events(), table.live), ([("code", "k")] * 5, 1))

    def test_too_large_before_anything_is_removed(self):
        table = BoundedTable([(number, 0) for number in range(600)], bound=600)
        self.assertEqual(self.unchanged(table, TooLarge, table.put, -1, 0), 600)
        self.assertEqual(table.evicted, ())
        few = Few([(1, 1), (2, 2), (3, 3)], bound=3)
        self.assertEqual(self.unchanged(few, TooLarge, few.put, 4, 4), 3)
        self.assertEqual(self.unchanged(few, TooLarge, few.set_default, 4), 3)
        few.set_bound(2)
        few.put(4, 4)
        self.assertEqual(shown(few), ([(3, 3), (4, 4)], ((1, 1), (2, 2))))

    def test_cursors_and_drains_evict_nothing(self):
        table = BoundedTable([("a", 1), ("b", 2), ("c", 3)], bound=3)
        cursor = Cursor(table)
        cursor.step(), cursor.set_current("new"), cursor.drop_current()
        self.assertEqual(list(drain(table, most=1)), [("b", 2)])
        self.assertEqual(shown(table), ([("c", 3)], ()))

    def test_held_tables(self):
        table = BoundedTable([("a", 1)], bound=1)
        table.hold()
        self.unchanged(table, Locked, table.put, "b", 2)
        table.put("a", 3)
        self.assertEqual(shown(table), ([("a", 3)], ()))

    def test_evicted_is_a_tuple_that_stays(self):
        table = BoundedTable([("a", 1), ("b", 2)], bound=1)
        evicted = table.evicted
        table.put("c", 3)
        table.clear()
        self.assertEqual((evicted, table.evicted), ((("a", 1),), (("a", 1), ("b", 2))))


class SetBound(Case):
    def test_lower_and_higher(self):
        for made in BOUNDED:
            table = made([(number, number) for number in range(5)])
            self.assertIsNone(table.set_bound(bound=3))
            self.assertEqual((table.bound, shown(table)), (3, ([(2, 2), (3, 3), (4, 4)], ((0, 0), (1, 1)))))
            self.assertEqual((table.mark, table.changes, table.filled), (7, 7, 5))
            table.set_bound(4)
            table.merge([(5, 5), (6, 6)])
            self.assertEqual(shown(table), ([(3, 3), (4, 4), (5, 5), (6, 6)], ((0, 0), (1, 1), (2, 2))))
            table.set_bound(1)
            self.assertEqual((table.live, len(table.evicted)), (1, 6))
            table.set_bound(600)
            self.assertEqual((table.bound, table.live), (600, 1))

    def test_bounds_that_are_none(self):
        for made in BOUNDED:
            table = made([("a", 1), ("b", 2)], bound=2)
            table.hold()
            for bad in BAD_BOUNDS:
                self.unchanged(table, BadSize, table.set_bound, bad)
            self.assertEqual((table.bound, table.evicted), (2, ()))

    def test_held_tables(self):
        for made in BOUNDED:
            table = made([("a", 1), ("b", 2)], bound=3)
            table.hold()
            self.unchanged(table, Locked, table.set_bound, 1)
            self.assertEqual((table.bound, table.evicted), (3, ()))
            table.set_bound(2)
            self.assertEqual(table.bound, 2)
            table.release()
            table.set_bound(1)
            self.assertEqual(shown(table), ([("b", 2)], (("a", 1),)))

    def test_the_least_index_goes_first_whatever_was_replaced(self):
        table = BoundedTable([("a", 1), ("b", 2), ("c", 3)], bound=3)
        table.put("a", "new")
        table.drop("b")
        table.put("b", 4)
        table.set_bound(1)
        self.assertEqual(shown(table), ([("b", 4)], (("a", "new"), ("c", 3))))


class Copies(Case):
    def test_a_copy_is_a_plain_table(self):
        for made in BOUNDED:
            table = made([("a", 1), ("b", 2)], bound=2)
            copy = table.copy()
            self.assertIs(type(copy), Table)
            copy.merge([(number, 0) for number in range(20)])
            self.assertEqual((copy.live, table.live), (22, 2))

    def test_missing_keys(self):
        for made in BOUNDED:
            table = made([("a", 1)], bound=2)
            self.assertEqual(self.unchanged(table, Missing, table.drop, "x"), "x")
            self.assertEqual(self.unchanged(table, Missing, table.fetch, "x"), "x")
