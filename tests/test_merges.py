"""Points 2 and 24, and merge in the interface, "entryhall/table.py"."""

from entryhall.errors import BadCode, BadKey, BadPairs, CodeFault, MatchFault, Missing
from entryhall.table import Table
from entryhall.unruly import DriftingKey, FailingKey, Key, MeddlingKey, Trace, TracedFailingKey, TracedKey
from tests.helpers import Case, Row, look
from tests.test_codes import NO_KEYS

NO_SOURCES = [None, 5, "", "ab", {}, {"a": 1}, {("a", 1)}, iter([]), Table, True, b"", object()]
NO_PAIRS = [None, 5, "ab", (), ("a",), ("a", 1, 2), ["a", 1], {"a": 1}]


class PairsOfItsOwn:
    """Has pairs, but is none of the sources."""

    def each_pair(self):
        return iter([("a", 1)])


class Sources(Case):
    def test_nothing(self):
        table = Table([("a", 1)])
        before = look(table)
        for sources in [(), ([],), ((), [], Table())]:
            self.assertIsNone(table.merge(*sources))
        self.assertEqual(look(table), before)

    def test_lists_tuples_and_tables_from_left_to_right(self):
        table = Table([("a", 1)])
        source = Table([("c", 4), ("gone", 0), ("a", 5)])
        source.drop("gone")
        self.assertIsNone(table.merge([("b", 2), ("a", 3)], source, (("d", 6), ("c", 7)), Row([("e", 8)])))
        self.assertEqual(list(table.each_pair()), [("a", 5), ("b", 2), ("c", 7), ("d", 6), ("e", 8)])
        self.assertEqual((table.mark, table.changes), (5, 5))

    def test_the_very_values(self):
        table, values = Table(), [[1], [2], [3]]
        table.merge([("a", values[0])], Table([("b", values[1])]), c=values[2])
        for held, value in zip(table.each_value(), values):
            self.assertIs(held, value)

    def test_names_come_last(self):
        table = Table([("b", 1)])
        table.merge([("a", 1), ("others", 0)], z=2, a=3, others=4, more=5, key=6, b=7)
        pairs = [("b", 7), ("a", 3), ("others", 4), ("z", 2), ("more", 5), ("key", 6)]
        self.assertEqual(list(table.each_pair()), pairs)

    def test_names_that_are_no_keys(self):
        table = Table()
        self.refused(BadKey, table.merge, [("a", 1)], **{"b": 2, "\u00e9": 3, "c": 4})
        self.assertEqual(list(table.each_pair()), [("a", 1), ("b", 2)])
        self.refused(BadKey, table.merge, **{"x" * 41: 1})
        self.refused(BadKey, table.merge, **{"x%": 1})
        table.merge(**{"not a name": 1, "": 2})
        self.assertEqual(list(table.each_key()), ["a", "b", "not a name", ""])

    def test_self_is_no_name(self):
        table = Table()
        with self.assertRaises(TypeError):
            table.merge(**{"self": 1})
        self.assertEqual(table.live, 0)

    def test_what_is_passed_stays_as_it_was(self):
        pairs, rows, names = [("a", 1)], (("b", 2),), {"c": 3}
        table = Table()
        table.merge(pairs, rows, **names)
        table.put("a", 9)
        table.drop("b")
        self.assertEqual((pairs, rows, names), ([("a", 1)], (("b", 2),), {"c": 3}))

    def test_the_table_itself(self):
        table = Table([(number, number) for number in range(6)])
        table.drop(2)
        before = look(table)
        table.merge(table)
        self.assertEqual(look(table), before)
        table.merge([(2, "new")], table, [(3, "three")], table)
        self.assertEqual(list(table.each_pair()), [(0, 0), (1, 1), (3, "three"), (4, 4), (5, 5), (2, "new")])

    def test_a_source_is_read_when_its_turn_comes(self):
        table, source = Table(), Table([("a", 1)])
        meddler = MeddlingKey("m", 5, source, (), (("put", "b", 2), ("drop", "a")))
        table.merge([(meddler, 0)], source)
        self.assertEqual(list(table.each_pair()), [(meddler, 0), ("a", 1), ("b", 2)])
        table.merge([(meddler, 0)], source)
        self.assertEqual(list(source.each_pair()), [("b", 2)])
        table = Table()
        table.merge(source, [("b", 3)], source)
        self.assertEqual(list(table.each_pair()), [("b", 2)])


class WrongSources(Case):
    def test_the_index_of_the_first_wrong_one_before_anything_is_done(self):
        table = Table([("a", 1)])
        for bad in NO_SOURCES + [PairsOfItsOwn()] + [[("b", 2), pair] for pair in NO_PAIRS]:
            self.assertEqual(self.unchanged(table, BadPairs, table.merge, bad), 0)
            self.assertEqual(self.unchanged(table, BadPairs, table.merge, [("b", 2)], bad, None), 1)
            self.assertEqual(self.unchanged(table, BadPairs, table.merge, Table([("b", 2)]), (), bad, c=3), 2)

    def test_a_tuple_with_a_wrong_pair(self):
        table = Table()
        for bad in NO_PAIRS:
            self.assertEqual(self.unchanged(table, BadPairs, table.merge, (("b", 2), bad)), 0)

    def test_sources_are_checked_before_keys(self):
        table, trace = Table(), Trace()
        key = TracedKey("k", 5, trace)
        self.assertEqual(self.unchanged(table, BadPairs, table.merge, [(key, 1), (True, 2)], 5), 1)
        self.assertEqual(trace.events(), [])

    def test_a_wrong_key_leaves_what_came_before_it(self):
        for bad in NO_KEYS:
            table = Table()
            self.refused(BadKey, table.merge, [("a", 1), (bad, 2), ("c", 3)], [("d", 4)], e=5)
            self.assertEqual(list(table.each_pair()), [("a", 1)])

    def test_a_key_that_fails_in_the_middle(self):
        for error, failing in [(CodeFault, FailingKey("f", 17, 1)), (MatchFault, FailingKey("f", 17, 0, 1))]:
            table = Table([("", 0)])
            self.assertEqual(self.refused(error, table.merge, [("a", 1), (failing, 2), ("b", 3)], c=4), "f")
            self.assertEqual(list(table.each_pair()), [("", 0), ("a", 1)])
            self.assertEqual((table.mark, table.changes), (2, 2))

    def test_a_code_that_is_none(self):
        table, key = Table(), Key("k", 5)
        key.code = lambda: None
        self.refused(BadCode, table.merge, [("a", 1), (key, 2)])
        self.assertEqual(list(table.each_key()), ["a"])

    def test_a_key_that_fails_where_a_table_is_merged(self):
        failing = FailingKey("f", 17, 0, 1)
        source = Table([("a", 1), (failing, 2), ("b", 3)])
        table = Table([("", 0)])
        self.assertEqual(self.refused(MatchFault, table.merge, source), "f")
        self.assertEqual(list(table.each_key()), ["", "a"])


class StoredCodes(Case):
    def test_the_codes_of_a_merged_table_are_not_asked(self):
        trace = Trace()
        source = Table([(TracedFailingKey("k", 5, trace, 2), 1), ("a", 2)])
        table = Table()
        table.merge(source)
        self.assertEqual(trace.events(), [("code", "k")])
        self.assertEqual(table.layout()[2], source.layout()[2])

    def test_the_codes_of_pairs_are_asked(self):
        trace = Trace()
        pairs = [(TracedKey("k", 5, trace), 1), (TracedKey("m", 6, trace), 2)]
        Table().merge(pairs)
        self.assertEqual(trace.events(), [("code", "k"), ("code", "m")])

    def test_answers_are_asked(self):
        trace = Trace()
        source = Table([(TracedKey("k", 5, trace), "new")])
        table = Table([(TracedKey("x", 5, trace), 0), (TracedKey("k", 5, trace), 1)])
        before = len(trace.events())
        table.merge(source)
        self.assertEqual(trace.events()[before:], [("matches", "x", "k"), ("matches", "k", "k")])
        self.assertEqual(list(table.each_value()), [0, "new"])

    def test_a_drifting_key_keeps_its_stored_code(self):
        key = DriftingKey("d", (3, 4, 5))
        source = Table([(key, 1)])
        table = Table([("a", 0)])
        table.merge(source)
        self.assertEqual(table.entry_at(1), (key, 3, 1))
        self.assertEqual(table.slot_at(3), 1)
        table.put(key, 2)
        self.assertEqual(table.entry_at(2), (key, 4, 2))
        source.merge(table)
        self.assertEqual([entry[:2] for entry in source.layout()[2]], [(key, 3), ("a", 658), (key, 4)])

    def test_a_key_that_changes_the_source_while_it_is_merged(self):
        source = Table([("a", 1), ("b", 2)])
        meddler = MeddlingKey("m", 5, source, (("clear",),))
        source.put(meddler, 3)
        source.put("c", 4)
        table = Table([(5, 0)])
        table.merge(source)
        self.assertEqual(list(table.each_pair()), [(5, 0), ("a", 1), ("b", 2), (meddler, 3), ("c", 4)])
        self.assertEqual(source.live, 0)

    def test_a_key_that_changes_the_table_itself_while_it_is_merged(self):
        table = Table([("a", 1)])
        meddler = MeddlingKey("m", 5, table, (("drop", "a"), ("put", "z", 9)))
        table.put(meddler, 2)
        table.merge(Table([("b", 3), (Key("m", 5), 4)]))
        self.assertEqual(list(table.each_pair()), [(meddler, 4), ("b", 3), ("z", 9)])

    def test_the_table_itself_with_a_key_that_drops_entries(self):
        table = Table([(5, 0)])
        stored = Key("k", 5)
        table.put(stored, 1)
        meddler = MeddlingKey("m", 5, table, (("drop", 5),))
        table.layout()
        self.refused(Missing, table.drop, Key("other", 5))
        table.merge([(meddler, 2)], table)
        self.assertEqual(list(table.each_pair()), [(stored, 1), (meddler, 2)])
