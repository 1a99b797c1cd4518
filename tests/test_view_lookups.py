"""Points 31, 32, 51 and 53: which lookups the views make, and what keys do in the middle of them."""

from entryhall.errors import ChangedKeys, MatchFault, Unsettled
from entryhall.table import Table
from entryhall.unruly import FailingKey, Key, MeddlingKey, Trace, TracedKey
from entryhall.views import ItemView, KeyView
from tests.helpers import Case
from tests.test_lookups import Own, meddled
from tests.test_operands import ALL, OF_ITEMS

# One entry of each table has one of these codes, so that its lookup asks one question in the other table,
# if that has an entry with this code: the stored key about the other one.
CODES = {"a": 1, "b": 2, "c": 3, "d": 4, "e": 5}


class Looking(Case):
    def setUp(self):
        self.trace = Trace()

    def table(self, name, letters, match=True):
        """A table with a traced key for each letter; it answers as told, and its label tells the table."""
        table = Table()
        for letter in letters:
            table.put(Asked(name + letter, CODES[letter.lower()], self.trace, match and letter.islower()), letter)
        return table

    def looked(self, call):
        """What a call returns, with the questions as pairs: which stored key was asked about which one."""
        start = len(self.trace.events())
        told = call()
        return told, self.trace.events()[start:]


class Asked(Key):
    """A key that notes what it is asked; a code is never asked once it is stored."""

    def __init__(self, label, code, trace, answer):
        super().__init__(label, code)
        self.trace, self.answer, self.stored = trace, answer, False

    def code(self):
        if self.stored:
            raise ZeroDivisionError
        self.stored = True
        return super().code()

    def matches(self, other):
        self.trace.note(f"{other.label}?{self.label}")
        return self.answer

    def __repr__(self):
        return self.label


class KeyLookups(Looking):
    """In each table a capital letter is a key that matches nothing, with the code of the small letter."""

    def labels(self, keys):
        return [key.label for key in keys]

    def check(self, name, own, its, expected, events):
        one, other = self.table("1", own), self.table("2", its)
        told, looked = self.looked(lambda: getattr(KeyView(one), name)(other))
        told = self.labels(told) if isinstance(told, list) else told
        self.assertEqual((told, looked), (expected, events))

    def test_both_and_only_look_the_own_entries_up(self):
        own = ["1a?2a", "1b?2B", "1c?2c"]
        self.check("both", "abce", "caBd", ["1a", "1c"], own)
        self.check("only", "abce", "caBd", ["1b", "1e"], own)

    def test_either_looks_only_those_of_the_other_up(self):
        self.check("either", "aBc", "cabd", ["1a", "1B", "1c", "2b", "2d"], ["2c?1c", "2a?1a", "2b?1B"])

    def test_one_of_looks_the_own_entries_up_first(self):
        events = ["1a?2a", "1b?2B", "1c?2c", "2c?1c", "2a?1a", "2B?1b"]
        self.check("one_of", "abc", "caBd", ["1b", "2d"], events)

    def test_is_part_stops_at_the_first_that_is_not_there(self):
        self.check("is_part", "abc", "cab", True, ["1a?2a", "1b?2b", "1c?2c"])
        self.check("is_part", "abc", "caB", False, ["1a?2a", "1b?2B"])
        self.check("is_part", "dabc", "cab", False, [])
        self.check("is_part", "", "abc", True, [])

    def test_covers_looks_those_of_the_other_up(self):
        self.check("covers", "abc", "ca", True, ["2c?1c", "2a?1a"])
        self.check("covers", "aBc", "cbad", False, ["2c?1c", "2b?1B"])
        self.check("covers", "abc", "", True, [])

    def test_is_apart_stops_at_the_first_that_is_there(self):
        self.check("is_apart", "abc", "cBd", False, ["1b?2B", "1c?2c"])
        self.check("is_apart", "abc", "bca", False, ["1a?2a"])
        self.check("is_apart", "abc", "CBA", True, ["1a?2A", "1b?2B", "1c?2C"])

    def test_same_keys_looks_nothing_up_where_the_numbers_differ(self):
        self.check("same_keys", "abc", "ab", False, [])
        self.check("same_keys", "ab", "abc", False, [])
        self.check("same_keys", "abc", "cba", True, ["1a?2a", "1b?2b", "1c?2c"])
        self.check("same_keys", "abc", "cBa", False, ["1a?2a", "1b?2B"])

    def test_same_order_stops_at_the_first_that_is_elsewhere(self):
        self.check("same_order", "abc", "ab", False, [])
        self.check("same_order", "abc", "abc", True, ["1a?2a", "1b?2b", "1c?2c"])
        self.check("same_order", "abc", "acb", False, ["1a?2a", "1b?2b"])
        self.check("same_order", "abc", "bac", False, ["1a?2a"])
        self.check("same_order", "abc", "aBc", False, ["1a?2a", "1b?2B"])

    def test_same_order_knows_positions_beside_holes(self):
        one, other = self.table("1", "ab"), self.table("2", "cab")
        other.remove_at(0)
        self.assertIs(KeyView(one).same_order(other), True)
        self.assertIs(KeyView(other).same_order(one), True)

    def test_common_goes_from_left_to_right(self):
        one = self.table("1", "abcd")
        others = [self.table("2", "aBc"), self.table("3", "cAb"), self.table("4", "abc")]
        told, looked = self.looked(lambda: self.labels(KeyView(one).common(*others)))
        self.assertEqual(told, ["1c"])
        self.assertEqual(looked, ["1a?2a", "1a?3A", "1b?2B", "1c?2c", "1c?3c", "1c?4c"])

    def test_together_looks_into_the_own_table_and_the_others_before(self):
        one = self.table("1", "aB")
        others = [self.table("2", "cab"), self.table("3", "Cbcd"), self.table("4", "dea")]
        told, looked = self.looked(lambda: self.labels(KeyView(one).together(*others)))
        self.assertEqual(told, ["1a", "1B", "2c", "2b", "3d", "4e"])
        self.assertEqual(looked, ["2a?1a", "2b?1B", "3C?2c", "3b?1B", "3b?2b", "3c?2c", "4d?3d", "4a?1a"])

    def test_the_same_table_is_looked_up_too(self):
        one = self.table("1", "aB")
        twin = Asked("twin", 2, self.trace, False)
        one.put(twin, 0)
        # An identical key is not asked, but keys with the same code before it are.
        told, looked = self.looked(lambda: KeyView(one).only(one))
        self.assertEqual((told, looked), ([], ["twin?1B"]))

    def test_lists_are_looked_up_by_the_codes_that_were_asked_once(self):
        one = self.table("1", "abc")
        given = list(self.table("2", "ca").each_key())
        for key in given:
            key.stored = False
        told, looked = self.looked(lambda: self.labels(KeyView(one).both(given)))
        self.assertEqual((told, looked), (["1a", "1c"], ["1a?2a", "1c?2c"]))


class ItemLookups(Looking):
    def check(self, call, own, its, events):
        one, other = self.table("1", own), self.table("2", its)
        _, looked = self.looked(lambda: call(ItemView(one), other))
        self.assertEqual(looked, events)

    def test_each_method(self):
        own, its = ["1a?2a", "1b?2B", "1c?2c"], ["2c?1c", "2a?1a", "2B?1b"]
        self.check(lambda view, other: view.both(other), "abce", "caBd", own)
        self.check(lambda view, other: view.only(other), "abce", "caBd", own)
        self.check(lambda view, other: view.delta_to(other), "abce", "caBd", own + its)
        self.check(lambda view, other: view.merged(other), "abce", "caBd", its)
        self.check(lambda view, other: view.merged(other, keep_own=False), "abce", "caBd", own + its)

    def test_has_pair_and_inverted_ask_nothing_else(self):
        one = self.table("1", "abc")
        told, looked = self.looked(lambda: ItemView(one).inverted().live)
        self.assertEqual((told, looked), (3, []))


# The methods with operands, as calls of a table with another one.
METHODS = [(lambda one, other, name=name: getattr(KeyView(one), name)(other)) for name in ALL]
METHODS += [(lambda one, other, name=name: getattr(ItemView(one), name)(other)) for name in OF_ITEMS]
METHODS += [lambda one, other: ItemView(one).merged(other, keep_own=False)]


class Changes(Case):
    def two(self, does):
        """Two tables with one entry each, whose stored keys do something when they are asked, and do not match."""
        return Table([(Own(5, False, does), "own")]), Table([(Own(5, False, does), "its")])

    def test_keys_that_change_a_table_that_takes_part(self):
        for change in (lambda table: table.put("new", 0), lambda table: table.reserve(100),
                       lambda table: table.put("new", 0) or table.drop("new")):
            for which in (0, 1):
                for call in METHODS:
                    done = []
                    one, other = self.two(lambda: done or (done.append(1), change((one, other)[which])))
                    self.refused(ChangedKeys, call, one, other)
                    self.assertEqual(len(done), 1)

    def test_a_change_counts_behind_the_lookup_whatever_it_found(self):
        for call in METHODS:
            asked = []
            one, other = self.two(lambda: asked.append(1) or (len(asked) == 1 and one.put("new", 0)))
            self.refused(ChangedKeys, call, one, other)
            # The own table's lookup starts over where it is the one that was changed.
            self.assertLessEqual(len(asked), 2)

    def test_the_lookup_that_was_disturbed_is_the_last_one(self):
        trace = Trace()
        other = Table([(TracedKey(str(code), code, trace), 0) for code in range(5)])
        other.put(MeddlingKey("m", 7, other, (("drop", "x"), ("put", "x", 0))), 0)
        other.put("x", 0)
        one = Table([(TracedKey("a", 0, trace), 0), (TracedKey("b", 7, trace), 0), (TracedKey("c", 1, trace), 0)])
        start = len(trace.events())
        self.refused(ChangedKeys, KeyView(one).only, other)
        self.assertEqual(trace.events()[start:], [("matches", "0", "a")])

    def test_keys_that_change_another_table(self):
        for call in METHODS:
            third, many = Table(), []
            one, other = self.two(lambda: (many.append(1), third.put(len(many), 0)))
            call(one, other)
            self.assertEqual(third.live, len(many))
            self.assertGreater(len(many), 0)

    def test_values_that_are_replaced_change_no_table(self):
        for call in METHODS:
            one, other = self.two(lambda: (one.put("x", 1), other.put("x", 1)))
            one.put("x", 0), other.put("x", 0)
            call(one, other)
            self.assertEqual((one.get("x"), other.get("x")), (1, 1))

    def test_tables_of_lists_and_of_several_operands_take_part(self):
        one, third = Table([(5, 0)]), Table([("x", 0)])
        changer = Own(5, False, lambda: third.put("y", 0))
        self.refused(ChangedKeys, KeyView(one).common, [changer], third)
        third.drop("y")
        self.refused(ChangedKeys, KeyView(one).together, [changer], third, ["z"])
        third.drop("y")
        self.assertEqual(KeyView(one).both([changer]), [])

    def test_keys_that_fail(self):
        for call in METHODS:
            failing = Table([(FailingKey("f", 5, 0, 1), 0)]), Table([(FailingKey("g", 5, 0, 1), 0)])
            self.assertIn(self.refused(MatchFault, call, *failing), "fg")

    def test_an_error_comes_before_changed_keys(self):
        def change_and_fail():
            one.put("new", 0)
            raise ZeroDivisionError

        one, other = Table([("a", 0)]), Table([(Own(5, False, change_and_fail), 0)])
        one.put(5, 0)
        with self.assertRaises(ZeroDivisionError):
            KeyView(one).both(other)

    def test_unsettled_passes_through(self):
        view = KeyView(Table([(0, "a")]))
        self.assertEqual(self.refused(Unsettled, view.both, meddled(17)), 16)
        self.refused(ChangedKeys, view.both, meddled(16))
        self.assertEqual(view.both(meddled(0)), [])

    def test_no_lookup_no_error(self):
        one, other = self.two(lambda: one.put("new", 0))
        other.put("more", 0)
        self.assertIs(KeyView(one).same_keys(other), False)
        self.assertIs(KeyView(one).same_order(other), False)
        self.assertEqual(KeyView(one).common(), list(one.each_key()))
