"""Points 3 to 7, 24 and 30 to 33: whom a lookup asks, and what it does where keys fail, drift, lie or meddle."""

from entryhall.errors import BadCode, BadKey, CodeFault, Locked, MatchFault, Missing, Unsettled
from entryhall.seeking import asked_at, place_for, seek, seek_key, trail
from entryhall.table import Table
from entryhall.unruly import DriftingKey, FailingKey, Key, LopsidedKey, MeddlingKey, Trace, TracedKey
from tests.helpers import Case, look

# Each call with a key, with the class of the error that it raises where the key is not there.
CALLS = [
    ("put", lambda table, key: table.put(key, "new"), None),
    ("get", lambda table, key: table.get(key), None),
    ("fetch", lambda table, key: table.fetch(key), Missing),
    ("has", lambda table, key: table.has(key), None),
    ("probe_count", lambda table, key: table.probe_count(key), None),
    ("drop", lambda table, key: table.drop(key), Missing),
    ("take", lambda table, key: table.take(key), None),
    ("set_default", lambda table, key: table.set_default(key, "new"), None),
    ("merge", lambda table, key: table.merge([(key, "new")]), None),
    ("seek_key", seek_key, None),
]


class Own(Key):
    """A key object of a class that the package does not know: it does what it is given."""

    def __init__(self, code, answer, does=lambda: None):
        super().__init__("own", 1)
        self.told_code, self.answer, self.does = code, answer, does

    def code(self):
        return self.told_code

    def matches(self, other):
        self.does()
        return self.answer


class Asking(Case):
    def asked(self, table, trace, key):
        """For each call: what the trace notes, for a table of its own made by the function."""
        events = []
        for _, call, error in CALLS:
            own = table()
            start = len(trace.events())
            try:
                call(own, key)
            except Missing as caught:
                self.assertIs(type(caught), error)
            events.append(trace.events()[start:])
        self.assertEqual(events, [events[0]] * len(CALLS))
        return events[0]

    def test_stored_keys_are_asked_about_a_plain_key(self):
        trace = Trace()
        pairs = [(TracedKey(label, 8, trace), 0) for label in "abc"]
        self.assertEqual(self.asked(lambda: Table(pairs), trace, 8), [("matches", label, 8) for label in "abc"])

    def test_the_given_key_is_asked_about_plain_keys(self):
        trace = Trace()
        pairs = [(0, "a"), (2 ** 32, "b"), (8, "c")]
        events = self.asked(lambda: Table(pairs), trace, TracedKey("k", 0, trace))
        self.assertEqual(events, [("code", "k"), ("matches", "k", 0), ("matches", "k", 2 ** 32)])

    def test_of_two_key_objects_the_stored_one_is_asked(self):
        trace = Trace()
        pairs = [(TracedKey("a", 0, trace), 0), (0, 0), (TracedKey("b", 0, trace), 0)]
        events = self.asked(lambda: Table(pairs), trace, TracedKey("k", 0, trace))
        self.assertEqual(events, [("code", "k"), ("matches", "a", "k"), ("matches", "k", 0), ("matches", "b", "k")])

    def test_a_match_ends_the_questions(self):
        trace = Trace()
        pairs = [(TracedKey(label, 0, trace), label) for label in "abc"]
        events = self.asked(lambda: Table(pairs), trace, TracedKey("b", 0, trace))
        self.assertEqual(events, [("code", "b"), ("matches", "a", "b"), ("matches", "b", "b")])

    def test_an_identical_key_is_not_asked(self):
        trace = Trace()
        keys = [TracedKey(label, 0, trace) for label in "abc"]
        pairs = [(key, 0) for key in keys]
        events = self.asked(lambda: Table(pairs), trace, keys[1])
        self.assertEqual(events, [("code", "b"), ("matches", "a", "b")])
        events = self.asked(lambda: Table(pairs[:1] + [(0, 1)] + pairs[2:]), trace, 0)
        self.assertEqual(events, [("matches", "a", 0)])

    def test_keys_with_other_codes_and_holes_are_not_asked(self):
        trace = Trace()

        def table():
            made = Table([(TracedKey(str(code), code, trace), 0) for code in (0, 8, 16)])
            made.put(TracedKey("gone", 24, trace), 0)
            made.put(TracedKey("last", 24, trace), 0)
            made.remove_at(3)
            noted.append(len(trace.events()))
            return made

        for _, call, _ in CALLS:
            noted = []
            own = table()
            try:
                call(own, Key("k", 24))
            except Missing:
                pass
            self.assertEqual(trace.events()[noted[0]:], [("matches", "last", "k")])

    def test_keys_are_asked_in_the_order_of_the_slots(self):
        trace = Trace()
        table = Table([(TracedKey(label, 0, trace), 0) for label in "abcd"])
        table.remove_at(0)
        noted = len(trace.events())
        # The last one comes into the hole in slot 0, the first slot of the path.
        table.put(TracedKey("e", 0, trace), 0)
        noted += 4
        self.assertFalse(table.has(Key("k", 0)))
        self.assertEqual([event[1] for event in trace.events()[noted:]], ["e", "b", "c", "d"])

    def test_a_slot_on_the_trail_twice_is_asked_twice(self):
        trace = Trace()
        table = Table([(7, "plain")])
        table.put(TracedKey("a", 4294967295, trace), 0)
        # The path is 7, 3, 7, 3, 7, 3, 3, 0: the entry is in slot 3, which comes four times.
        self.assertEqual((table.slot_at(7), table.slot_at(3)), (0, 1))
        before = len(trace.events())
        self.assertEqual(table.probe_count(Key("k", 4294967295)), 8)
        self.assertEqual(trace.events()[before:], [("matches", "a", "k")] * 4)
        self.assertEqual(asked_at(table, Key("k", 1), 4294967295), [1] * 4)

    def test_nothing_is_asked_by_other_calls(self):
        trace = Trace()
        keys = [TracedKey(label, 0, trace) for label in "abcdef"]
        table = Table([(key, 0) for key in keys[:4]])
        events = trace.events()
        table.reserve(30)
        table.remove_at(1)
        table.replace_at(0, 5)
        table.compact()
        table.shrink()
        self.assertEqual(table.pop_last(), (keys[3], 0))
        table.copy().same_pairs(table)
        list(table.each_pair())
        trail(table, 0), place_for(table, 0), asked_at(table, keys[5], 0), table.layout()
        table.clear()
        self.assertEqual(trace.events(), events)

    def test_a_growth_asks_nothing(self):
        trace = Trace()
        table = Table([(TracedKey("k", number, trace), 0) for number in range(5)])
        before = len(trace.events())
        table.put(TracedKey("last", 100, trace), 0)
        self.assertEqual((table.size, trace.events()[before:]), (16, [("code", "last")]))


class Answers(Case):
    def test_only_true_is_a_match(self):
        for answer in (False, None, 0, 1, "True", "", [True], (True,), 1.0, Key("k", 0)):
            table = Table([(LopsidedKey("l", 0, (answer,)), "stored")])
            self.assertEqual((table.get(0), table.has(Key("l", 0))), (None, False))
            self.assertIsNone(Table([(0, "stored")]).get(LopsidedKey("l", 0, (answer,))))
        for answers, expected in [((True,), "stored"), ((1, True), None)]:
            self.assertEqual(Table([(LopsidedKey("l", 0, answers), "stored")]).get(0), expected)
            self.assertEqual(Table([(0, "stored")]).get(LopsidedKey("l", 0, answers)), expected)

    def test_a_key_that_matches_whatever_it_is_asked_about(self):
        table = Table([(LopsidedKey("l", 0, (True,)), "stored")])
        for key in (0, 2 ** 32, Key("k", 0)):
            table.put(key, key)
            self.assertEqual((table.live, table.fetch(0)), (1, key))
        self.assertFalse(table.has(8))

    def test_answers_go_round(self):
        table = Table([(LopsidedKey("l", 0, (False, True)), "stored")])
        self.assertEqual([table.get(0) for _ in range(4)], [None, "stored", None, "stored"])
        table.put(0, "zero")
        self.assertEqual(list(table.each_value()), ["stored", "zero"])


class Failing(Case):
    def test_codes_that_fail(self):
        for _, call, _ in CALLS:
            for at in (1, 2):
                table, key = Table([(0, "a"), ("b", 1)]), FailingKey("f", 0, at)
                table.drop("b")
                if at == 2:
                    table.get(key)
                self.assertEqual(self.unchanged(table, CodeFault, call, table, key), "f")

    def test_codes_that_are_none(self):
        for _, call, _ in CALLS:
            for code in (-1, 2 ** 32, None, True, "1", 1.0):
                table = Table([(0, "a")])
                self.unchanged(table, BadCode, call, table, Own(code, True))

    def test_answers_that_fail(self):
        for _, call, _ in CALLS:
            table = Table([(0, "a"), (FailingKey("f", 0, 0, 2), "b"), ("c", 3)])
            table.drop("c")
            self.assertEqual(self.unchanged(table, MatchFault, call, table, 2 ** 32), "f")
            table = Table([(0, "a")])
            self.assertEqual(self.unchanged(table, MatchFault, call, table, FailingKey("g", 0, 0, 1)), "g")

    def test_a_failing_key_goes_on_afterwards(self):
        table, key = Table([(FailingKey("f", 0, 0, 1), "a")]), FailingKey("f", 0, 1)
        self.refused(CodeFault, table.put, key, "new")
        self.refused(MatchFault, table.put, key, "new")
        table.put(key, "new")
        self.assertEqual(list(table.each_value()), ["new"])

    def test_the_key_is_checked_before_its_code_and_its_answers(self):
        table = Table([(FailingKey("f", 1, 0, 1), "a")])
        for _, call, _ in CALLS:
            self.unchanged(table, BadKey, call, table, True)
        self.refused(MatchFault, table.get, 1)

    def test_another_error_of_a_key_is_passed_on(self):
        def fail():
            raise ZeroDivisionError

        table = Table([(Own(0, True, fail), "a")])
        before = look(table)
        with self.assertRaises(ZeroDivisionError):
            table.put(0, "new")
        self.assertEqual(look(table), before)

    def test_a_step_that_raises_in_a_question(self):
        table = Table([("a", 1)])
        table.put(MeddlingKey("m", 0, table, (("drop", "none"), ("put", True, 1), ("drop", "a"))), 2)
        self.assertEqual(self.unchanged(table, Missing, table.get, 0), "none")
        self.unchanged(table, BadKey, table.get, 0)
        self.assertIsNone(table.get(0))
        self.assertEqual(list(table.each_value()), [2])


def drops(many):
    """Steps that each change the table of the next function."""
    return tuple(("drop", number) for number in range(1, many + 1))


def meddled(many, first=()):
    """A table with a key that changes it so many times before it answers in peace."""
    table = Table([(number, 0) for number in range(1, 41)])
    table.put(MeddlingKey("m", 0, table, first + drops(many)), 2)
    return table


class Meddling(Case):
    def test_up_to_16_restarts(self):
        for many in (0, 1, 2, 15, 16):
            for key, found in [(Key("m", 0), True), (Key("k", 0), False), (0, False)]:
                table = meddled(many)
                mark = table.mark
                self.assertIs(table.has(key), found)
                self.assertEqual((table.mark, table.live), (mark + many, 41 - many))

    def test_the_17th_disturbed_attempt_is_the_last(self):
        for many in (17, 18, 40):
            for _, call, _ in CALLS:
                table = meddled(many)
                mark = table.mark
                self.assertEqual(self.refused(Unsettled, call, table, Key("m", 0)), 16)
                self.assertEqual((table.mark, list(table.each_value())), (mark + 17, [0] * 23 + [2]))

    def test_restarts_are_counted_for_each_lookup(self):
        table = meddled(33)
        self.refused(Unsettled, table.has, 0)
        self.assertIs(table.has(Key("m", 0)), True)
        self.assertEqual(table.live, 8)

    def test_a_change_counts_whatever_the_answer_was(self):
        trace = Trace()
        table = Table()
        twin = TracedKey("m", 0, trace)
        table.put(MeddlingKey("m", 0, table, (("put", "t", 0),)), "meddler")
        table.put(8, "eight")
        # The first answer is True, but it does not count; so the key is asked again.
        self.assertEqual(seek(table, twin, 0), (0, 0, 1))
        self.assertEqual(table.mark, 3)
        table = Table([(0, "plain")])
        given = MeddlingKey("m", 0, table, (("drop", 0),))
        self.assertEqual(seek(table, given, 0), (0, -1, 2))
        self.assertEqual(table.layout(), (8, (-2,) + (-1,) * 7, (None,), 2))

    def test_the_attempt_begins_at_the_first_slot(self):
        trace = Trace()
        table = Table([(TracedKey("a", 0, trace), 0)])
        table.put(MeddlingKey("m", 0, table, (("put", "t", 0),)), 1)
        table.put(TracedKey("z", 8, trace), 2)
        before = len(trace.events())
        self.assertEqual(seek(table, 0, 0), (7, -1, 4))
        self.assertEqual(trace.events()[before:], [("matches", "a", 0)] * 2)

    def test_steps_that_do_not_change_the_mark(self):
        trace = Trace()
        table = Table([("x", 1), (TracedKey("a", 0, trace), 0)])
        steps = (("put", "x", 2), ("compact",), ("shrink",), ("reserve", 2))
        table.put(MeddlingKey("m", 0, table, steps), 3)
        before = len(trace.events())
        for _ in range(4):
            self.assertIs(table.has(0), False)
        self.assertEqual(trace.events()[before:], [("matches", "a", 0)] * 4)
        self.assertEqual((table.get("x"), table.mark), (2, 3))

    def test_each_kind_of_change_starts_the_lookup_over(self):
        for steps, asked in [([("put", "y", 0)], 2), ([("drop", "x")], 2), ([("reserve", 50)], 2),
                             ([("drop", "x"), ("compact",)], 3), ([("reserve", 50), ("shrink",)], 3),
                             ([("clear",)], 1)]:
            trace = Trace()
            table = Table([("x", 1), (TracedKey("a", 0, trace), 0)])
            table.put(MeddlingKey("m", 0, table, tuple(steps)), 2)
            before = len(trace.events())
            self.assertIs(table.has(0), False)
            self.assertEqual(trace.events()[before:], [("matches", "a", 0)] * asked)
            self.assertEqual(table.mark, 3 + len(steps))

    def test_a_clear_in_the_middle_of_a_put(self):
        table = Table([("x", 1)])
        table.put(MeddlingKey("m", 0, table, (("clear",),)), 2)
        table.put(0, "zero")
        self.assertEqual(table.layout(), (8, (0,) + (-1,) * 7, ((0, 0, "zero"),), 4))

    def test_a_key_that_drops_itself(self):
        table = Table()
        meddler = MeddlingKey("m", 0, table, ())
        meddler = MeddlingKey("m", 0, table, (("drop", meddler),))
        table.put(meddler, 1)
        # The drop asks the stored key again, which matches now; then there is nothing left to ask.
        self.assertEqual((table.take(Key("m", 0), "none"), table.live), ("none", 0))

    def test_a_key_that_adds_the_given_one(self):
        table = Table()
        given = Key("g", 0)
        table.put(MeddlingKey("m", 0, table, (("put", given, "inner"),)), 1)
        self.assertEqual(table.set_default(given, "outer"), "inner")
        self.assertEqual(table.live, 2)

    def test_lookups_inside_a_question_count_for_themselves(self):
        table, inner, seen = Table(), meddled(16), []
        table.put(Own(0, False, lambda: seen.append(inner.has(0))), 1)
        self.assertIs(table.has(0), False)
        self.assertEqual((seen, inner.live), ([False], 25))
        # The first question puts 0, and the lookup of this put is disturbed 16 times by the other steps.
        table = meddled(16, (("put", 0, "inner"),))
        self.assertIs(table.has(0), True)
        self.assertEqual((table.live, table.get(0)), (26, "inner"))
        table = meddled(17, (("put", 0, "inner"),))
        self.assertEqual(self.refused(Unsettled, table.has, 0), 16)
        self.assertEqual(table.live, 24)

    def test_a_question_in_which_the_same_key_is_asked_again(self):
        table = Table()
        steps = (("put", 0, "first"), ("put", 0, "second"))
        table.put(MeddlingKey("m", 0, table, steps), 1)
        # The step of the first question looks 0 up, too; its own question performs the second step.
        table.put(0, "third")
        self.assertEqual(list(table.each_value())[1:], ["third"])
        self.assertEqual(table.mark, 2)

    def test_unsettled_inside_a_question_is_passed_on(self):
        table, inner = Table(), meddled(17)
        table.put(Own(0, True, lambda: inner.get(0)), 1)
        self.assertEqual(self.unchanged(table, Unsettled, table.get, 0), 16)

    def test_codes_that_change_the_table_before_the_lookup(self):
        table = Table([("x", 1)])
        table.put(MeddlingKey("m", 0, table, (), (("drop", "x"), ("put", "y", 2))), 3)
        self.assertEqual(list(table.each_value()), [3])
        twin = MeddlingKey("m", 0, table, (), (("put", Key("m", 0), 4), ("clear",)))
        table.put(twin, 5)
        self.assertEqual(list(table.each_value()), [5])
        self.assertEqual(self.refused(Missing, table.drop, twin), twin)
        self.assertEqual((table.live, table.filled), (0, 0))

    def test_a_code_that_changes_the_table_many_times_starts_nothing_over(self):
        table = Table()
        key = Key("k", 0)
        key.code = lambda: [table.put(number, 0) for number in range(1, 40)] and 0
        self.assertEqual(seek_key(table, key), (0, -1, 1))

    def test_what_a_held_table_refuses_in_a_question(self):
        table = meddled(1)
        table.hold()
        self.unchanged(table, Locked, table.has, 0)


class Drifting(Case):
    def test_a_key_is_found_where_an_attempt_comes_to_its_entry(self):
        key = DriftingKey("d", (0, 8, 16))
        table = Table([(key, "a")])
        # The paths of 8 and 16 begin with slot 0 as well.
        table.put(key, "b")
        self.assertEqual((table.fetch(key), table.live, table.entry_at(0)), ("b", 1, (key, 0, "b")))

    def test_a_key_is_stored_twice_where_no_attempt_comes_to_its_entry(self):
        key = DriftingKey("d", (0, 3))
        table = Table([(key, "a")])
        table.put(key, "b")
        self.assertEqual(table.layout()[2], ((key, 0, "a"), (key, 3, "b")))
        self.assertEqual([table.fetch(key), table.fetch(key)], ["a", "b"])
        table.drop(key)
        self.assertEqual(list(table.each_pair()), [(key, "b")])
        self.assertEqual(table.take(key), "b")

    def test_an_entry_that_is_found_by_another_code_is_removed_from_its_own_slot(self):
        key = DriftingKey("d", (0, 8))
        table = Table([(key, "a")])
        table.drop(key)
        self.assertEqual(table.layout(), (8, (-2,) + (-1,) * 7, (None,), 2))

    def test_the_identical_key_counts_before_the_codes(self):
        key = DriftingKey("d", (0, 8, 8))
        table = Table([(key, "drifting")])
        table.put(Key("d", 8), "other")
        self.assertEqual(table.live, 2)
        self.assertEqual(table.fetch(key), "drifting")
        self.assertEqual(table.fetch(Key("d", 8)), "other")

    def test_an_earlier_match_counts_before_the_identical_key(self):
        key = DriftingKey("d", (3, 0))
        table = Table([(Key("d", 0), "first"), (8, 0)])
        table.put(key, "second")
        table.put(3, "third")
        self.assertEqual(table.fetch(key), "first")

    def test_another_key_with_the_stored_code(self):
        table = Table([(DriftingKey("d", (0, 5)), "a")])
        self.assertEqual((table.get(Key("d", 0)), table.get(Key("d", 5))), ("a", None))

    def test_a_rebuild_takes_the_stored_code(self):
        key = DriftingKey("d", (3, 4))
        table = Table([(key, "a")])
        table.reserve(20)
        self.assertEqual((table.slot_at(3), table.slot_at(4)), (0, -1))
        self.assertIsNone(table.get(key))
        self.assertEqual(table.get(key), "a")
