"""Points 2, 6, 24 and 82, and the interface, "entryhall/pairs.py"."""

from entryhall.errors import BadCode, BadKey, BadPairs, CodeFault, Empty, MatchFault, Missing, TooLarge
from entryhall.pairs import PairList
from entryhall.table import Table
from entryhall.unruly import DriftingKey, FailingKey, Key, LopsidedKey, MeddlingKey, Trace, TracedKey
from tests.helpers import Case, Row
from tests.test_codes import NO_KEYS
from tests.test_lookups import Own
from tests.test_merges import NO_PAIRS, NO_SOURCES, PairsOfItsOwn

# Each call with a key, with what it raises where the key is not there.
CALLS = [
    (lambda pairs, key: pairs.put(key, "new"), None),
    (lambda pairs, key: pairs.get(key), None),
    (lambda pairs, key: pairs.fetch(key), Missing),
    (lambda pairs, key: pairs.has(key), None),
    (lambda pairs, key: pairs.drop(key), Missing),
    (lambda pairs, key: pairs.take(key), None),
    (lambda pairs, key: pairs.set_default(key, "new"), None),
    (lambda pairs, key: pairs.merge([(key, "new")]), None),
]


def shown(pairs):
    return list(pairs.each_pair())


class Pairs(Case):
    def kept(self, pairs, error, call, *given, **named):
        """Expect an error that leaves the pairs as they are."""
        before = shown(pairs), pairs.live
        told = self.refused(error, call, *given, **named)
        self.assertEqual((shown(pairs), pairs.live), before)
        return told


class New(Pairs):
    def test_an_empty_list(self):
        for pairs in (PairList(), PairList([]), PairList(()), PairList(Table()), PairList(PairList())):
            self.assertEqual((pairs.live, shown(pairs)), (0, []))

    def test_the_class_value(self):
        self.assertEqual((PairList.MAX_LIVE, PairList().MAX_LIVE), (600, 600))

    def test_pairs_are_put_one_by_one(self):
        for pairs in ([("a", 1), ("b", 2), ("a", 3)], (("a", 1), ("b", 2), ("a", 3)), Row([("a", 3), ("b", 2)])):
            self.assertEqual(shown(PairList(pairs=pairs)), [("a", 3), ("b", 2)])

    def test_of_tables_and_lists(self):
        table = Table([("a", 1), ("gone", 0), ("b", 2)])
        table.drop("gone")
        self.assertEqual(shown(PairList(table)), [("a", 1), ("b", 2)])
        self.assertEqual(shown(PairList(PairList(table))), [("a", 1), ("b", 2)])

    def test_no_pairs(self):
        for bad in NO_SOURCES + [PairsOfItsOwn()] + [[("a", 1), pair] for pair in NO_PAIRS]:
            self.assertEqual(self.refused(BadPairs, PairList, bad), 0)

    def test_no_keys(self):
        for bad in NO_KEYS:
            self.refused(BadKey, PairList, [("a", 1), (bad, 2)])

    def test_the_list_is_not_kept(self):
        given = [("a", 1)]
        pairs = PairList(given)
        given.append(("b", 2))
        pairs.put("c", 3)
        self.assertEqual((given, shown(pairs)), ([("a", 1), ("b", 2)], [("a", 1), ("c", 3)]))

    def test_live_cannot_be_set(self):
        with self.assertRaises(AttributeError):
            PairList().live = 1


class Calls(Pairs):
    def test_put_get_fetch_has(self):
        value = []
        pairs = PairList([("a", 1)])
        self.assertIsNone(pairs.put("b", value))
        self.assertIsNone(pairs.put(value=2, key="a"))
        self.assertEqual(shown(pairs), [("a", 2), ("b", [])])
        self.assertIs(pairs.get("b"), value)
        self.assertIs(pairs.fetch(key="b"), value)
        self.assertEqual((pairs.get("x"), pairs.get("x", 5), pairs.get("a", 5)), (None, 5, 2))
        self.assertEqual((pairs.has("a"), pairs.has(key="x")), (True, False))
        key = ("x", 1)
        self.assertIs(self.kept(pairs, Missing, pairs.fetch, key), key)

    def test_drop_take_pop_last(self):
        pairs = PairList([("a", 1), ("b", 2), ("c", 3), ("d", 4)])
        self.assertIsNone(pairs.drop(key="b"))
        self.assertEqual((pairs.take("a"), pairs.take("a"), pairs.take(key="a", default=7)), (1, None, 7))
        self.assertEqual(self.kept(pairs, Missing, pairs.drop, "b"), "b")
        self.assertEqual((pairs.pop_last(), pairs.live), (("d", 4), 1))
        self.assertEqual((pairs.pop_last(), pairs.live), (("c", 3), 0))
        self.kept(pairs, Empty, pairs.pop_last)

    def test_set_default_and_clear(self):
        value = []
        pairs = PairList([("a", 1)])
        self.assertEqual(pairs.set_default("a", 2), 1)
        self.assertIs(pairs.set_default(key="b", value=value), value)
        self.assertIsNone(pairs.set_default("c"))
        self.assertEqual(shown(pairs), [("a", 1), ("b", []), ("c", None)])
        self.assertIsNone(pairs.clear())
        self.assertEqual((shown(pairs), pairs.live, pairs.clear()), ([], 0, None))

    def test_a_key_that_is_dropped_and_put_comes_last(self):
        pairs = PairList([("a", 1), ("b", 2)])
        pairs.drop("a")
        pairs.put("a", 3)
        self.assertEqual(shown(pairs), [("b", 2), ("a", 3)])

    def test_generators(self):
        pairs = PairList([("a", 1), ("b", 2)])
        self.assertEqual(list(pairs.each_key()), ["a", "b"])
        self.assertEqual(list(pairs.each_value()), [1, 2])
        walk = pairs.each_pair()
        self.assertEqual((next(walk), next(walk), next(walk, "end")), (("a", 1), ("b", 2), "end"))

    def test_what_is_no_key(self):
        pairs = PairList([("a", 1), (1, 2)])
        for bad in NO_KEYS:
            for call, _ in CALLS:
                self.kept(pairs, BadKey, call, pairs, bad)

    def test_600_pairs(self):
        pairs = PairList([(number, 0) for number in range(600)])
        self.assertEqual(pairs.live, 600)
        self.assertEqual(self.kept(pairs, TooLarge, pairs.put, -1, 0), 600)
        self.assertEqual(self.kept(pairs, TooLarge, pairs.set_default, -1), 600)
        self.assertEqual(self.kept(pairs, TooLarge, pairs.merge, [(-1, 0)]), 600)
        self.assertEqual(self.kept(pairs, TooLarge, pairs.merge, x=0), 600)
        self.assertEqual(self.refused(TooLarge, PairList, [(number, 0) for number in range(601)]), 600)
        pairs.put(0, "new")
        self.assertEqual((pairs.set_default(599), pairs.fetch(0)), (0, "new"))
        pairs.drop(5)
        pairs.put(-1, 0)
        self.assertEqual(pairs.live, 600)

    def test_the_stored_key_stays(self):
        one, other = Key("k", 5), Key("k", 5)
        pairs = PairList([(one, 1)])
        pairs.put(other, 2)
        self.assertEqual(shown(pairs), [(one, 2)])


class Asking(Pairs):
    def test_each_call_asks_the_code_once_and_goes_through_the_pairs_from_the_first_one_on(self):
        for call, error in CALLS:
            trace = Trace()
            pairs = PairList([(TracedKey(label, 8, trace), 0) for label in "abc"])
            pairs.put(8, 1)
            pairs.put(TracedKey("other", 9, trace), 2)
            before = len(trace.events())
            try:
                call(pairs, TracedKey("k", 8, trace))
            except Missing as caught:
                self.assertIs(type(caught), error)
            expected = [("code", "k")] + [("matches", label, "k") for label in "abc"] + [("matches", "k", 8)]
            self.assertEqual(trace.events()[before:], expected)

    def test_a_match_ends_the_questions(self):
        trace = Trace()
        pairs = PairList([(TracedKey(label, 8, trace), label) for label in "abc"])
        before = len(trace.events())
        self.assertEqual(pairs.get(Key("b", 8)), "b")
        self.assertEqual(trace.events()[before:], [("matches", "a", "b"), ("matches", "b", "b")])

    def test_an_identical_key_is_found_whatever_its_code_is(self):
        drifting = DriftingKey("d", (1, 2, 3))
        pairs = PairList([("a", 0), (drifting, "d")])
        self.assertEqual([pairs.get(drifting) for _ in range(4)], ["d"] * 4)
        pairs.put(drifting, "new")
        self.assertEqual((pairs.live, pairs.get(Key("d", 1)), pairs.get(Key("d", 2))), (2, "new", None))

    def test_a_matching_answer_before_the_identical_key(self):
        drifting = DriftingKey("d", (1, 0))
        pairs = PairList([(Key("d", 0), "first"), (drifting, "second")])
        self.assertEqual([pairs.get(drifting), pairs.get(drifting)], ["first", "second"])

    def test_plain_keys_are_found_by_identity_alone(self):
        trace = Trace()
        pairs = PairList([(TracedKey("a", 8, trace), 0), (8, "eight"), (2 ** 32 + 8, "more")])
        before = len(trace.events())
        self.assertEqual((pairs.get(8), pairs.get(2 ** 32 + 8), pairs.get(-(2 ** 32) + 8)), ("eight", "more", None))
        self.assertEqual(trace.events()[before:][:2], [("matches", "a", 8), ("matches", "a", 2 ** 32 + 8)])

    def test_only_true_is_a_match(self):
        for answer in (False, None, 1, "True", [True]):
            self.assertIsNone(PairList([(LopsidedKey("l", 8, (answer,)), "stored")]).get(8))
            self.assertIsNone(PairList([(8, "stored")]).get(LopsidedKey("l", 8, (answer,))))
        pairs = PairList([(LopsidedKey("l", 8, (False, True)), "stored")])
        self.assertEqual([pairs.get(8), pairs.get(8), pairs.get(9)], [None, "stored", None])

    def test_keys_that_fail(self):
        for call, _ in CALLS:
            pairs = PairList([(0, "a")])
            self.assertEqual(self.kept(pairs, CodeFault, call, pairs, FailingKey("f", 0, 1)), "f")
            self.assertEqual(self.kept(pairs, MatchFault, call, pairs, FailingKey("g", 0, 0, 1)), "g")
            for code in (-1, 2 ** 32, None, True, "1"):
                self.kept(pairs, BadCode, call, pairs, Own(code, True))
            pairs = PairList([(0, "a"), (FailingKey("f", 0, 0, 2), "b")])
            self.assertEqual(self.kept(pairs, MatchFault, call, pairs, 2 ** 32), "f")

    def test_a_code_that_changes_the_list_before_it_is_gone_through(self):
        pairs = PairList([("x", 1)])
        key = MeddlingKey("m", 0, pairs, (), (("clear",), ("put", Key("m", 0), 2)))
        pairs.put(key, 3)
        self.assertEqual(shown(pairs), [(key, 3)])
        self.assertEqual((pairs.get(key), pairs.live), (2, 1))

    def test_nothing_is_asked_by_other_calls(self):
        trace = Trace()
        pairs = PairList([(TracedKey(label, 0, trace), 0) for label in "abc"])
        events = trace.events()
        other, table = pairs.copy(), Table([(1, 0), (2, 0), (3, 0)])
        pairs.same_pairs(other), pairs.agrees(table), list(pairs.each_pair()), pairs.live
        pairs.pop_last()
        pairs.clear()
        self.assertEqual(trace.events(), events)


class Merging(Pairs):
    def test_from_left_to_right_and_names_last(self):
        pairs = PairList([("a", 1)])
        table, other = Table([("c", 4), ("a", 5)]), PairList([("c", 6), ("f", 9)])
        self.assertIsNone(pairs.merge([("b", 2), ("a", 3)], table, (("d", 7),), other, d=8, others=1, pairs=2))
        expected = [("a", 5), ("b", 2), ("c", 6), ("d", 8), ("f", 9), ("others", 1), ("pairs", 2)]
        self.assertEqual(shown(pairs), expected)
        pairs.merge()
        self.assertEqual(shown(pairs), expected)

    def test_stored_codes(self):
        trace = Trace()
        keys = [TracedKey("t", 5, trace), DriftingKey("d", (3, 4))]
        for source in (Table([(key, 0) for key in keys]), PairList([(keys[0], 0), (DriftingKey("d", (3, 4)), 0)])):
            before = len(trace.events())
            pairs = PairList()
            pairs.merge(source)
            self.assertEqual(trace.events()[before:], [])
            self.assertEqual((pairs.get(Key("t", 5)), pairs.has(Key("d", 3)), pairs.has(Key("d", 4))), (0, True, False))

    def test_a_table_gets_the_stored_codes_back(self):
        key = DriftingKey("d", (3, 4, 5))
        pairs = PairList(Table([(key, 1)]))
        self.assertFalse(pairs.has(Key("d", 4)))
        self.assertTrue(pairs.copy().has(Key("d", 3)))

    def test_the_list_itself(self):
        trace = Trace()
        pairs = PairList([(TracedKey("a", 8, trace), 1), (TracedKey("b", 8, trace), 2)])
        before = len(trace.events())
        pairs.merge(pairs)
        self.assertEqual(list(pairs.each_value()), [1, 2])
        # The first key is found as itself; for the second one the first is asked.
        self.assertEqual(trace.events()[before:], [("matches", "a", "b")])
        pairs.merge([("c", 3)], pairs, [("c", 4)], pairs)
        self.assertEqual(list(pairs.each_value()), [1, 2, 4])

    def test_a_source_is_read_when_its_turn_comes(self):
        pairs, source = PairList(), PairList([("a", 1)])
        meddler = MeddlingKey("m", 5, source, (), (("put", "b", 2), ("drop", "a")))
        pairs.merge([(meddler, 0), (meddler, 1)], source)
        self.assertEqual(shown(pairs), [(meddler, 1), ("b", 2)])

    def test_what_cannot_be_merged(self):
        pairs, trace = PairList([("a", 1)]), Trace()
        for bad in NO_SOURCES + [PairsOfItsOwn()] + [[("b", 2), pair] for pair in NO_PAIRS]:
            self.assertEqual(self.kept(pairs, BadPairs, pairs.merge, bad), 0)
            self.assertEqual(self.kept(pairs, BadPairs, pairs.merge, [("b", 2)], PairList(), bad, None, c=3), 2)
        self.assertEqual(self.kept(pairs, BadPairs, pairs.merge, [(TracedKey("k", 5, trace), 1), (True, 2)], 5), 1)
        self.assertEqual(trace.events(), [])

    def test_what_comes_before_an_error_stays(self):
        failing = [(CodeFault, FailingKey("f", 17, 1)), (MatchFault, FailingKey("f", 17, 0, 1))]
        for error, bad in [(BadKey, True)] + failing:
            pairs = PairList([("", 0)])
            self.refused(error, pairs.merge, [("a", 1), (bad, 2), ("b", 3)], c=4)
            self.assertEqual(shown(pairs), [("", 0), ("a", 1)])
        self.refused(BadKey, PairList().merge, **{"\u00e9": 1})

    def test_a_table_does_not_merge_a_list_of_pairs(self):
        self.assertEqual(self.refused(BadPairs, Table, PairList()), 0)
        self.assertEqual(self.refused(BadPairs, Table().merge, [], PairList([("a", 1)])), 1)

    def test_what_is_passed_stays(self):
        given, names = [("a", 1)], {"c": 3}
        pairs = PairList()
        pairs.merge(given, **names)
        pairs.put("a", 9)
        pairs.drop("c")
        self.assertEqual((given, names), ([("a", 1)], {"c": 3}))


class LeftOnly:
    """Is equal to everything when it stands on the left; nothing is equal to it."""

    def __init__(self, answer):
        self.answer = answer

    def __eq__(self, other):
        return self.answer


class Comparing(Pairs):
    def test_copy(self):
        value, key = [], DriftingKey("d", (3, 4))
        pairs = PairList([(key, value), ("a", 1)])
        copy = pairs.copy()
        self.assertIs(type(copy), PairList)
        self.assertEqual(shown(copy), [(key, value), ("a", 1)])
        self.assertIs(copy.get(Key("d", 3)), value)
        copy.put("a", 2)
        copy.drop(key)
        pairs.put("b", 3)
        self.assertEqual((shown(copy), shown(pairs)), ([("a", 2)], [(key, []), ("a", 1), ("b", 3)]))

    def test_same_pairs(self):
        key = Key("k", 5)
        pairs = PairList([("a", 1), (key, 2)])
        self.assertIs(pairs.same_pairs(PairList([("a", 1.0), (key, 2)])), True)
        self.assertIs(pairs.same_pairs(pairs), True)
        self.assertIs(pairs.same_pairs(other=pairs.copy()), True)
        others = [[("a", 1)], [("a", 1), (key, 2), ("b", 3)], [(key, 2), ("a", 1)], [("a", 1), (key, 3)],
                  [("a", 1), (Key("k", 5), 2)], [("b", 1), (key, 2)], []]
        for other in others:
            self.assertIs(pairs.same_pairs(PairList(other)), False)
        for other in (Table([("a", 1), (key, 2)]), [("a", 1), (key, 2)], None, 5):
            self.assertIs(pairs.same_pairs(other), False)
        self.assertIs(PairList().same_pairs(PairList()), True)

    def test_agrees(self):
        key = Key("k", 5)
        pairs = PairList([("a", 1), (key, 2)])
        table = Table([("x", 0), ("a", 1.0), (key, 2)])
        self.assertIs(pairs.agrees(table), False)
        table.drop("x")
        self.assertIs(pairs.agrees(table=table), True)
        for other in ([("a", 1)], [("a", 1), (key, 3)], [(key, 2), ("a", 1)], [("a", 1), (Key("k", 5), 2)], []):
            self.assertIs(pairs.agrees(Table(other)), False)
        for other in (pairs, [("a", 1), (key, 2)], None, "ab"):
            self.assertIs(pairs.agrees(other), False)
        self.assertIs(PairList().agrees(Table()), True)

    def test_which_value_stands_on_the_left(self):
        yes, no = LeftOnly(True), LeftOnly(False)
        self.assertIs(PairList([("a", yes)]).same_pairs(PairList([("a", no)])), True)
        self.assertIs(PairList([("a", no)]).same_pairs(PairList([("a", yes)])), False)
        self.assertIs(PairList([("a", no)]).agrees(Table([("a", yes)])), True)
        self.assertIs(PairList([("a", yes)]).agrees(Table([("a", no)])), False)
        # A value that is not equal to itself is not equal to the very same one.
        nan = float("nan")
        self.assertIs(PairList([("a", nan)]).same_pairs(PairList([("a", nan)])), False)
        self.assertIs(PairList([("a", nan)]).agrees(Table([("a", nan)])), False)
