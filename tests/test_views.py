"""Points 2, 50 and 54: what the three views have alike, and what each shows of its own table alone."""

from entryhall.errors import BadCode, BadKey, BadSize, BadView, CodeFault, MatchFault, Missing, NoEntry, Unsettled
from entryhall.table import Table
from entryhall.unruly import DriftingKey, FailingKey, Key, Trace, TracedKey
from entryhall.views import ItemView, KeyView, ValueView
from tests.helpers import NO_INTEGERS, Case, look
from tests.test_codes import NO_KEYS
from tests.test_cursors import NO_TABLES, holed
from tests.test_lookups import Own, meddled
from tests.test_pairs import LeftOnly

VIEWS = [
    (KeyView, "key_at", ["b", "d", "e"]),
    (ValueView, "value_at", [2, 4, 5]),
    (ItemView, "pair_at", [("b", 2), ("d", 4), ("e", 5)]),
]


class All(Case):
    def test_no_tables(self):
        for made, _, _ in VIEWS:
            for thing in NO_TABLES:
                self.refused(BadView, made, thing)
            self.assertEqual(made(table=Table()).how_many(), 0)

    def test_how_many(self):
        for made, _, _ in VIEWS:
            table = holed()
            view = made(table)
            self.assertEqual(view.how_many(), 3)
            table.put("z", 9)
            self.assertEqual(view.how_many(), 4)
            table.clear()
            self.assertEqual((view.how_many(), view.listed()), (0, []))

    def test_listed(self):
        for made, _, rows in VIEWS:
            view = made(holed())
            self.assertEqual(view.listed(), rows)
            for backwards in (False, True):
                ordered = rows[::-1] if backwards else rows
                for start in (0, 1, 2, 3, 4, 10 ** 30):
                    self.assertEqual(view.listed(backwards=backwards, start=start), ordered[start:])
                    for most in (None, 0, 1, 2, 3, 4, 10 ** 30):
                        end = None if most is None else start + most
                        listed = view.listed(backwards=backwards, start=start, most=most)
                        self.assertEqual(listed, ordered[start:end])

    def test_listed_is_a_new_list(self):
        for made, _, rows in VIEWS:
            view = made(holed())
            view.listed().clear()
            view.listed(backwards=True).clear()
            self.assertEqual(view.listed(), rows)
            with self.assertRaises(TypeError):
                view.listed(True)

    def test_listed_with_numbers_that_are_none(self):
        for made, _, _ in VIEWS:
            view = made(holed())
            for bad in NO_INTEGERS + [-1, -(10 ** 30)]:
                told = self.refused(BadSize, view.listed, start=bad)
                self.assertEqual(self.refused(BadSize, view.listed, start=bad, most=-1), told)
                if bad is not None:
                    self.refused(BadSize, view.listed, most=bad)
                    self.refused(BadSize, view.listed, backwards=True, most=bad)

    def test_positions(self):
        for made, name, rows in VIEWS:
            view = made(holed())
            for position in range(-3, 3):
                self.assertEqual(getattr(view, name)(position=position), rows[position])
            for bad in NO_INTEGERS + [3, -4, 10 ** 30, -(10 ** 30)]:
                self.assertIs(self.refused(NoEntry, getattr(view, name), bad), bad)
            self.assertEqual(self.refused(NoEntry, getattr(made(Table()), name), 0), 0)
            self.assertEqual(self.refused(NoEntry, getattr(made(Table()), name), -1), -1)

    def test_has_changed(self):
        for made, _, _ in VIEWS:
            for change in (lambda it: it.put("z", 1), lambda it: it.drop("b"), lambda it: it.clear()):
                table = holed()
                view = made(table)
                self.assertIs(view.has_changed(), False)
                table.put("b", "new")
                table.compact()
                table.reserve(50)
                table.hold()
                table.release()
                self.assertIs(view.has_changed(), False)
                change(table)
                self.assertIs(view.has_changed(), True)
                self.assertIs(made(table).has_changed(), False)

    def test_values_are_read_when_they_are_shown(self):
        table = holed()
        values, items = ValueView(table), ItemView(table)
        table.put("d", "new")
        self.assertEqual((values.listed(), items.pair_at(1)), ([2, "new", 5], ("d", "new")))

    def test_no_key_is_asked(self):
        trace = Trace()
        table = Table([(TracedKey(label, 0, trace), label) for label in "abc"])
        before, events = look(table), trace.events()
        for made, name, _ in VIEWS:
            view = made(table)
            view.how_many(), view.listed(backwards=True), view.has_changed(), getattr(view, name)(-1)
        list(KeyView(table).each_from(1))
        ValueView(table).keys_with("b"), ValueView(table).groups()
        self.assertEqual((trace.events(), look(table)), (events, before))

    def test_the_example_of_the_document(self):
        view = KeyView(Table([(1, "a"), (2, "b"), (3, "c")]))
        self.assertEqual(view.listed(backwards=True, start=1), [2, 1])


class Keys(Case):
    def test_position_of(self):
        table, key = holed(), Key("k", 5)
        table.put(key, 0)
        view = KeyView(table)
        self.assertEqual([view.position_of(one) for one in ("b", "d", "e", key)], [0, 1, 2, 3])
        self.assertEqual(view.position_of(key=Key("k", 5)), 3)
        gone = ("x", 1)
        self.assertIs(self.refused(Missing, view.position_of, gone), gone)

    def test_has_key(self):
        view = KeyView(holed())
        self.assertEqual([view.has_key("b"), view.has_key(key="a"), view.has_key(None)], [True, False, False])

    def test_both_are_refused_as_lookups_are(self):
        table = holed()
        table.put(FailingKey("f", 8, 0, 1), 0)
        view = KeyView(table)
        calls = [view.position_of, view.has_key, lambda key: ItemView(table).has_pair(key, 0)]
        for call in calls:
            for bad in NO_KEYS:
                self.unchanged(table, BadKey, call, bad)
            for bad in (-1, None, True):
                self.unchanged(table, BadCode, call, Own(bad, False))
            self.assertEqual(self.unchanged(table, CodeFault, call, FailingKey("g", 8, 1)), "g")
            failing = FailingKey("h", 658, 0, 1)
            self.assertEqual(self.refused(MatchFault, KeyView(Table([("a", 0)])).has_key, failing), "h")
        self.assertEqual(self.unchanged(table, MatchFault, view.position_of, 8), "f")
        for call in (KeyView(meddled(17)).position_of, KeyView(meddled(17)).has_key):
            self.assertEqual(self.refused(Unsettled, call, 0), 16)
        self.assertEqual(self.refused(Unsettled, ItemView(meddled(17)).has_pair, 0, 2), 16)

    def test_the_code_is_asked_once(self):
        trace = Trace()
        key = TracedKey("t", 5, trace)
        table = Table([(key, 0)])
        view, before = KeyView(table), len(trace.events())
        view.position_of(key), view.has_key(key), ItemView(table).has_pair(key, 0)
        self.assertEqual(trace.events()[before:], [("code", "t")] * 3)

    def test_a_position_behind_a_change_that_the_lookup_makes(self):
        table = meddled(3)
        self.assertEqual((KeyView(table).position_of(Key("m", 0)), table.live), (37, 38))

    def test_each_from(self):
        view = KeyView(holed())
        for position in range(4):
            self.assertEqual(list(view.each_from(position=position)), ["b", "d", "e"][position:])
        for bad in NO_INTEGERS + [-1, 4, 10 ** 30]:
            made = view.each_from(bad)
            self.assertIs(self.refused(NoEntry, next, made), bad)
        self.assertEqual(list(KeyView(Table()).each_from(0)), [])

    def test_each_from_looks_when_it_is_iterated(self):
        table = Table()
        made = KeyView(table).each_from(1)
        table.merge([("a", 1), ("b", 2)])
        self.assertEqual(list(made), ["b"])

    def test_a_drifting_key_that_is_there_twice(self):
        key = DriftingKey("d", (0, 3))
        table = Table([(key, "a"), (key, "b")])
        view = KeyView(table)
        self.assertEqual((view.listed(), view.position_of(key), view.position_of(key)), ([key, key], 0, 1))


class Values(Case):
    def view(self, *values):
        return ValueView(Table([(number, value) for number, value in enumerate(values)]))

    def test_equal_values(self):
        view = self.view(1, "a", True, [1], 1.0, None, [1], 0)
        self.assertEqual([view.has_value(value) for value in (1, 1.0, "a", [1], None, False, "b", [2])],
                         [True] * 6 + [False] * 2)
        self.assertEqual([view.count_value(value) for value in (1, "a", [1], 0, "b")], [3, 1, 2, 1, 0])
        self.assertEqual(view.keys_with(value=True), [0, 2, 4])
        self.assertEqual((view.keys_with([1]), view.keys_with("b")), ([3, 6], []))
        self.assertEqual((view.has_value(value=None), view.count_value(value=None)), (True, 1))

    def test_distinct_and_groups(self):
        view = self.view(1, "a", True, [1], 1.0, None, [1], 0)
        distinct = view.distinct()
        self.assertEqual(distinct, [1, "a", [1], None, 0])
        self.assertIs(type(distinct[0]), int)
        self.assertEqual(view.groups(), [[0, 2, 4], [1], [3, 6], [5], [7]])
        self.assertEqual((self.view().distinct(), self.view().groups()), ([], []))

    def test_which_value_stands_on_the_left(self):
        yes, no = LeftOnly(True), LeftOnly(False)
        self.assertIs(self.view(yes).has_value(no), True)
        self.assertIs(self.view(no).has_value(yes), False)
        self.assertEqual((self.view(no, yes).count_value(no), self.view(no, yes).keys_with(no)), (1, [1]))
        # Each value stands on the left of the earlier ones.
        self.assertEqual((self.view(no, yes).groups(), self.view(no, yes).distinct()), ([[0, 1]], [no]))
        self.assertEqual((self.view(yes, no).groups(), self.view(yes, no).distinct()), ([[0], [1]], [yes, no]))
        self.assertEqual(self.view(yes, no, yes).groups(), [[0, 2], [1]])

    def test_a_value_that_is_not_equal_to_itself(self):
        nan = float("nan")
        view = self.view(nan, nan)
        self.assertEqual((view.has_value(nan), view.count_value(nan), view.keys_with(nan)), (False, 0, []))
        self.assertEqual(view.groups(), [[0], [1]])

    def test_the_very_values(self):
        value = []
        view = self.view(value)
        self.assertTrue(view.value_at(0) is value and view.listed()[0] is value and view.distinct()[0] is value)

    def test_new_lists(self):
        view = self.view(1, 1)
        view.groups()[0].clear()
        view.distinct().clear()
        self.assertEqual((view.groups(), view.distinct()), ([[0, 1]], [1]))


class Items(Case):
    def test_has_pair(self):
        key = Key("k", 5)
        view = ItemView(Table([("a", 1), (key, [2]), ("n", None)]))
        self.assertIs(view.has_pair("a", 1.0), True)
        self.assertIs(view.has_pair(key="a", value=True), True)
        self.assertEqual([view.has_pair("a", 2), view.has_pair("b", 1), view.has_pair("x", None)], [False] * 3)
        self.assertEqual((view.has_pair(Key("k", 5), [2]), view.has_pair("n", None)), (True, True))

    def test_has_pair_compares_with_the_stored_value_on_the_left(self):
        yes, no = LeftOnly(True), LeftOnly(False)
        self.assertIs(ItemView(Table([("a", yes)])).has_pair("a", no), True)
        self.assertIs(ItemView(Table([("a", no)])).has_pair("a", yes), False)

    def test_inverted(self):
        table = Table([("a", 1), ("b", "x"), ("c", 1), ("d", None), ("e", (1, 2)), ("f", "x")])
        table.drop("d")
        made = ItemView(table).inverted()
        self.assertIs(type(made), Table)
        self.assertEqual(list(made.each_pair()), [(1, ["a", "c"]), ("x", ["b", "f"]), ((1, 2), ["e"])])
        self.assertEqual((ItemView(Table()).inverted().live, table.live), (0, 5))

    def test_inverted_with_key_objects(self):
        trace = Trace()
        one, same = TracedKey("k", 5, trace), TracedKey("k", 5, trace)
        made = ItemView(Table([("a", one), ("b", 5), ("c", same), ("d", one)])).inverted()
        self.assertEqual(list(made.each_pair()), [(one, ["a", "c", "d"]), (5, ["b"])])
        self.assertEqual([event[0] for event in trace.events()].count("code"), 3)
        self.assertEqual(self.refused(CodeFault, ItemView(Table([("a", FailingKey("f", 5, 1))])).inverted), "f")

    def test_inverted_with_values_that_are_no_keys(self):
        for bad in NO_KEYS:
            self.refused(BadKey, ItemView(Table([("a", 1), ("b", bad)])).inverted)
        trace = Trace()
        self.refused(BadKey, ItemView(Table([("a", TracedKey("t", 1, trace)), ("b", 1.5)])).inverted)
        self.assertEqual(trace.events(), [])

    def test_inverted_of_a_table_that_was_copied_is_of_its_own(self):
        view = ItemView(Table([("a", 1)]))
        view.inverted().put(1, "new")
        self.assertEqual(view.inverted().get(1), ["a"])
