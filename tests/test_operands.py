"""Points 51 to 55: what the views do with other tables, views and lists of keys."""

from entryhall.errors import BadCode, BadKey, BadView, CodeFault, MatchFault, TooLarge
from entryhall.pairs import PairList
from entryhall.pictures import Picture
from entryhall.table import Table
from entryhall.unruly import DriftingKey, FailingKey, Key, MeddlingKey, Trace, TracedKey
from entryhall.views import ItemView, KeyView, ValueView
from tests.helpers import Case, Row, look
from tests.test_codes import NO_KEYS
from tests.test_histories import CROWDED, PLAIN, Numbers
from tests.test_lookups import Own
from tests.test_pairs import LeftOnly

ONE_OPERAND = ["both", "only", "either", "one_of", "is_part", "covers", "is_apart", "same_keys", "same_order"]
ALL = ONE_OPERAND + ["common", "together"]
OF_ITEMS = ["both", "only", "delta_to", "merged"]

NO_OPERANDS = [None, 5, True, "ab", b"", {}, {"a": 1}, {"a"}, iter([]), object(), Table, PairList(), Picture([]),
               ValueView(Table()), ItemView(Table())]


def keys(*given):
    """A table with these keys, each with a value of its own, and holes between them."""
    table = Table()
    for number, key in enumerate(given):
        table.put(("gone", number), 0)
        table.put(key, f"v{number}")
        table.drop(("gone", number))
    return table


class Results(Case):
    def results(self, view, other):
        return {name: getattr(view, name)(other) for name in ALL}

    def expected(self, own, its):
        """What the methods return for lists of different plain keys."""
        return {
            "both": [key for key in own if key in its],
            "only": [key for key in own if key not in its],
            "either": own + [key for key in its if key not in own],
            "one_of": [key for key in own if key not in its] + [key for key in its if key not in own],
            "is_part": all(key in its for key in own),
            "covers": all(key in own for key in its),
            "is_apart": not any(key in its for key in own),
            "same_keys": len(own) == len(its) and all(key in its for key in own),
            "same_order": own == its,
            "common": [key for key in own if key in its],
            "together": own + [key for key in its if key not in own],
        }

    def test_each_method_with_each_kind_of_operand(self):
        cases = [([], []), ([1], []), ([], [1]), ([1, 2, 3], [3, 4]), ([1, 2], [1, 2]), ([1, 2], [2, 1]), ([1], [1, 2]),
                 ([1, 2], [3, 4]), ([8, 16, 0], [0, 24, 8]), (["a", None, (1,)], [(1,), "a", None]),
                 ([0, 2 ** 32], [2 ** 32, 0])]
        for own, its in cases:
            table, other = keys(*own), keys(*its)
            before = look(table), look(other)
            for operand in (other, KeyView(other), list(its), tuple(its), Row(its)):
                self.assertEqual(self.results(KeyView(table), operand), self.expected(own, its))
            self.assertEqual((look(table), look(other)), before)

    def test_many_keys_against_lists(self):
        numbers = Numbers(1)
        for number in range(60):
            pool = PLAIN if number % 2 else CROWDED
            own = list(dict.fromkeys(pool[numbers.below(len(pool))] for _ in range(numbers.below(14))))
            its = list(dict.fromkeys(pool[numbers.below(len(pool))] for _ in range(numbers.below(14))))
            self.assertEqual(self.results(KeyView(keys(*own)), keys(*its)), self.expected(own, its))

    def test_the_same_table_twice(self):
        table = keys(1, 2, 3)
        view = KeyView(table)
        for operand in (table, view, KeyView(table)):
            self.assertEqual(self.results(view, operand), self.expected([1, 2, 3], [1, 2, 3]))
        self.assertEqual(view.common(table, view, [3, 1]), [1, 3])
        self.assertEqual(view.together(table, view, [4, 1], [4]), [1, 2, 3, 4])

    def test_by_name(self):
        view = KeyView(keys(1, 2))
        for name in ONE_OPERAND:
            self.assertEqual(getattr(view, name)(other=[2]), getattr(view, name)([2]))

    def test_no_others_and_several(self):
        view = KeyView(keys(1, 2, 3, 4))
        self.assertEqual((view.common(), view.together()), ([1, 2, 3, 4], [1, 2, 3, 4]))
        self.assertEqual(view.common([4, 3, 2], (2, 4), keys(4, 2, 9)), [2, 4])
        self.assertEqual(view.together([5, 4, 6], (6, 7), keys(8, 5, 7)), [1, 2, 3, 4, 5, 6, 7, 8])

    def test_the_keys_of_the_own_table_are_given(self):
        own, its = Key("k", 5), Key("k", 5)
        view, other = KeyView(keys(own, "a")), keys(its, "b")
        self.assertIs(view.both(other)[0], own)
        self.assertEqual((view.either(other), view.one_of(other)), ([own, "a", "b"], ["a", "b"]))
        self.assertIs(view.either(other)[0], own)
        self.assertEqual(KeyView(keys("a")).together([its], [own]), ["a", its])

    def test_results_are_new_lists(self):
        view = KeyView(keys(1, 2))
        for call in (view.common, view.together, lambda: view.both([1, 2]), lambda: view.either([])):
            call().clear()
            self.assertEqual(call(), [1, 2])

    def test_the_stored_codes_are_used(self):
        drifting = DriftingKey("d", (3, 4, 5, 6))
        table, other = keys(drifting), keys(drifting)
        # The same key object is stored with 3 in one table and with 4 in the other one.
        view = KeyView(table)
        self.assertEqual((view.both(other), view.is_apart(other), view.both(table)), ([], True, [drifting]))
        self.assertEqual((view.both([Key("d", 3)]), view.both([Key("d", 4)])), ([drifting], []))

    def test_several_own_keys_found_as_one(self):
        always = Own(0, True)
        view = KeyView(Table([(0, "a"), (2 ** 32, "b")]))
        other = Table([(always, "x"), ("y", 0)])
        self.assertEqual((view.both(other), view.is_part(other), view.same_keys(other)), ([0, 2 ** 32], True, True))
        # Both are found at position 0, so the second one is not at its own.
        self.assertIs(view.same_order(other), False)
        self.assertIs(KeyView(Table([(0, "a")])).same_order(Table([(always, "x")])), True)


class Operands(Case):
    def test_what_is_no_operand(self):
        for bad in NO_OPERANDS:
            for name in ALL:
                self.refused(BadView, getattr(KeyView(keys(1)), name), bad)
        for bad in NO_OPERANDS[:-1] + [KeyView(Table()), [], (), [("a", 1)]]:
            for name in OF_ITEMS:
                self.refused(BadView, getattr(ItemView(keys(1)), name), bad)

    def test_keys_that_put_refuses(self):
        for name in ALL:
            call = getattr(KeyView(keys(1)), name)
            for bad in NO_KEYS:
                self.refused(BadKey, call, [1, bad])
            self.refused(BadCode, call, [Own(-1, True)])
            self.assertEqual(self.refused(CodeFault, call, (FailingKey("f", 1, 1),)), "f")
            self.assertEqual(self.refused(MatchFault, call, [1, FailingKey("f", 1, 0, 1)]), "f")
            self.assertEqual(self.refused(TooLarge, call, list(range(601))), 600)

    def test_of_several_the_first_from_left_to_right(self):
        view, trace = KeyView(keys(1)), Trace()
        for name in ("common", "together"):
            call = getattr(view, name)
            self.refused(BadView, call, [1], None, [True])
            self.refused(BadKey, call, [1], [True], None)
            key = TracedKey("t", 1, trace)
            before = len(trace.events())
            self.refused(BadView, call, [key], 5, [TracedKey("u", 1, trace)])
            self.assertEqual(trace.events()[before:], [("code", "t")])

    def test_keys_of_a_list_are_asked_for_their_codes_once_each(self):
        for name in ALL:
            trace = Trace()
            given = [TracedKey(label, 9, trace) for label in "aba"]
            getattr(KeyView(Table()), name)(given)
            expected = [("code", "a"), ("code", "b"), ("matches", "a", "b"), ("code", "a"), ("matches", "a", "a")]
            self.assertEqual(trace.events()[:5], expected)
            self.assertNotIn("code", [event[0] for event in trace.events()[5:]])

    def test_of_equal_keys_the_first_one_stays(self):
        one, other = Key("k", 5), Key("k", 5)
        self.assertEqual(KeyView(Table()).either([1, one, 1, other, "a"]), [1, one, "a"])
        self.assertIs(KeyView(keys("k")).same_keys([1, 1, 1]), False)
        self.assertIs(KeyView(keys(1)).same_keys([1, 1, 1]), True)

    def test_lists_are_left_alone(self):
        given = [3, 1, 3]
        for name in ALL:
            getattr(KeyView(keys(1, 2)), name)(given)
        self.assertEqual(given, [3, 1, 3])

    def test_a_view_shows_its_table_as_it_is_then(self):
        table = keys(1)
        operand = KeyView(table)
        table.put(2, 0)
        self.assertEqual(KeyView(keys(1, 2, 3)).both(operand), [1, 2])

    def test_operands_are_made_before_the_first_lookup(self):
        table = keys(1, 2)
        meddler = MeddlingKey("m", 99, table, (), (("put", 3, 0), ("drop", 1)))
        # What codes do to the table, they do before the marks are noted.
        self.assertEqual(KeyView(table).only([meddler, 2]), [1, 3])
        self.assertEqual(KeyView(table).common([2, 3], [3, meddler, 2]), [2, 3])
        self.assertEqual(list(table.each_key()), [2, 3])


class Items(Case):
    def tables(self):
        one = Table([("a", 1), ("x", 0), ("b", 2), ("c", [3]), ("d", None)])
        one.drop("x")
        other = Table([("d", None), ("c", [3.0]), ("e", 5), ("b", 9), ("x", 0), ("f", 6)])
        other.drop("x")
        return one, other

    def test_both_and_only(self):
        one, other = self.tables()
        for operand in (other, ItemView(other)):
            view = ItemView(one)
            self.assertEqual(view.both(other=operand), [("c", [3]), ("d", None)])
            self.assertEqual(view.only(other=operand), [("a", 1), ("b", 2)])
        self.assertEqual((view.both(one), view.only(view)), (view.listed(), []))
        self.assertEqual((view.both(Table()), ItemView(Table()).only(one)), ([], []))

    def test_delta_to(self):
        one, other = self.tables()
        delta = ItemView(one).delta_to(other)
        self.assertEqual(delta, (["a"], [("b", 2, 9)], [("e", 5), ("f", 6)]))
        self.assertEqual([type(part) for part in (delta,) + delta], [tuple, list, list, list])
        self.assertEqual(ItemView(other).delta_to(ItemView(one)), (["e", "f"], [("b", 9, 2)], [("a", 1)]))
        self.assertEqual(ItemView(one).delta_to(other=one), ([], [], []))
        one, other = Table([(1, "a"), (2, "b")]), Table([(2, "c"), (4, "d")])
        self.assertEqual(ItemView(one).delta_to(other), ([1], [(2, "b", "c")], [(4, "d")]))

    def test_merged(self):
        one, other = self.tables()
        added = [("e", 5), ("f", 6)]
        for operand in (other, ItemView(other)):
            view = ItemView(one)
            self.assertEqual(view.merged(operand), [("a", 1), ("b", 2), ("c", [3]), ("d", None)] + added)
            self.assertEqual(view.merged(operand, keep_own=True), view.merged(other=operand))
            made = view.merged(operand, keep_own=False)
            self.assertEqual(made, [("a", 1), ("b", 9), ("c", [3.0]), ("d", None)] + added)
            self.assertIs(made[2][1], other.get("c"))
        with self.assertRaises(TypeError):
            view.merged(other, False)
        self.assertEqual(view.merged(one, keep_own=False), view.listed())

    def test_the_own_keys_are_given(self):
        own, its = Key("k", 5), Key("k", 5)
        view, other = ItemView(Table([(own, 1)])), Table([(its, 2), (6, 3)])
        self.assertEqual(view.delta_to(other), ([], [(own, 1, 2)], [(6, 3)]))
        self.assertEqual(view.merged(other, keep_own=False), [(own, 2), (6, 3)])
        self.assertEqual(view.only(other), [(own, 1)])

    def test_which_value_stands_on_the_left(self):
        yes, no = LeftOnly(True), LeftOnly(False)
        view, other = ItemView(Table([("a", yes)])), Table([("a", no)])
        self.assertEqual((view.both(other), view.only(other), view.delta_to(other)), ([("a", yes)], [], ([], [], [])))
        view = ItemView(other)
        self.assertEqual((view.both(other), view.only(other)), ([], [("a", no)]))
        self.assertEqual(view.delta_to(Table([("a", yes)])), ([], [("a", no, yes)], []))

    def test_a_value_that_is_not_equal_to_itself(self):
        nan = float("nan")
        view = ItemView(Table([("a", nan)]))
        self.assertEqual((view.both(view), view.only(view)), ([], [("a", nan)]))
        self.assertEqual(view.delta_to(view), ([], [("a", nan, nan)], []))

    def test_new_lists_and_nothing_changed(self):
        one, other = self.tables()
        before = look(one), look(other)
        view = ItemView(one)
        for call in (view.both, view.only, view.merged, lambda it: view.delta_to(it)[2]):
            told = call(other)
            told.append("more")
            self.assertEqual(call(other), told[:-1])
        self.assertEqual((look(one), look(other)), before)
