"""Points 2, 4 and 7: the classes of key objects, and Trace."""

import itertools
import unittest

from entryhall.errors import BadCode, BadKey, BadStep, CodeFault, Locked, MatchFault
from entryhall.unruly import (
    DriftingKey,
    FailingKey,
    Key,
    LopsidedKey,
    MeddlingKey,
    Trace,
    TracedFailingKey,
    TracedKey,
)

NO_LABELS = [None, 1, True, b"a", ("a",), ["a"], (), "a" * 41, "%", "a\n", "\t", "\u00e9", "\x7f"]
NO_CODES = [-1, 4294967296, 10 ** 30, True, False, None, 1.0, "1", (1,), [1]]
NO_FILLED_TUPLES = [(), [], [1], None, 1, "ab", {1: 2}]
STEPS = [
    ("put", "a", 1),
    ("drop", "a"),
    ("clear",),
    ("compact",),
    ("shrink",),
    ("reserve", 10),
]
NO_STEPS = [
    ("put",),
    ("put", "a"),
    ("put", "a", 1, 2),
    ("drop",),
    ("drop", "a", 1),
    ("clear", 1),
    ("compact", None),
    ("shrink", 1),
    ("reserve",),
    ("reserve", 1, 2),
    (),
    ("",),
    ("Put", "a", 1),
    ("take", "a"),
    ("puts", "a", 1),
    (None,),
    (1, 2),
    (("clear",),),
    (["clear"],),
    ([],),
    ({}, 1),
    (b"clear",),
    ["clear"],
    ["put", "a", 1],
    "clear",
    "",
    None,
    5,
    {},
]


class Recorder:
    """Has methods of the six names, and records the calls."""

    def __init__(self):
        self.calls = []

    def put(self, key, value):
        self.calls.append(("put", key, value))

    def drop(self, key):
        self.calls.append(("drop", key))

    def clear(self):
        self.calls.append(("clear",))

    def compact(self):
        self.calls.append(("compact",))

    def shrink(self):
        self.calls.append(("shrink",))

    def reserve(self, many):
        self.calls.append(("reserve", many))


class Refusing(Recorder):
    """Records the calls, and refuses to drop or to clear."""

    def drop(self, key):
        Recorder.drop(self, key)
        raise Locked("held")

    def clear(self):
        Recorder.clear(self)
        raise Locked("held")


# For each class: how an object is made with a given label, and with a given label and code.
WITH_LABEL = [
    lambda label: Key(label, 5),
    lambda label: TracedKey(label, 5, Trace()),
    lambda label: FailingKey(label, 5),
    lambda label: TracedFailingKey(label, 5, Trace()),
    lambda label: DriftingKey(label, (5,)),
    lambda label: LopsidedKey(label, 5, (False,)),
    lambda label: MeddlingKey(label, 5, Recorder(), ()),
]
WITH_CODE = [
    lambda label, code: Key(label, code),
    lambda label, code: TracedKey(label, code, Trace()),
    lambda label, code: FailingKey(label, code),
    lambda label, code: TracedFailingKey(label, code, Trace()),
    lambda label, code: DriftingKey(label, (code,)),
    lambda label, code: DriftingKey(label, (5, code)),
    lambda label, code: LopsidedKey(label, code, (False,)),
    lambda label, code: MeddlingKey(label, code, Recorder(), ()),
]


class AllClasses(unittest.TestCase):
    def test_bases(self):
        for below in (TracedKey, FailingKey, DriftingKey, LopsidedKey, MeddlingKey):
            self.assertEqual(below.__bases__, (Key,))
        self.assertEqual(TracedFailingKey.__bases__, (TracedKey, FailingKey))
        self.assertEqual(Key.__bases__, (object,))

    def test_no_class_defines_equality(self):
        for make in WITH_LABEL:
            one, other = make("a"), make("a")
            self.assertTrue(one == one)
            self.assertFalse(one == other)
            self.assertIs(type(one).__eq__, object.__eq__)
            self.assertIs(type(one).__hash__, object.__hash__)

    def test_the_label_can_be_read(self):
        for make in WITH_LABEL:
            for label in ("", "a", " ~", "x" * 40):
                self.assertEqual(make(label).label, label)

    def test_no_label(self):
        for make in WITH_LABEL:
            for label in NO_LABELS:
                with self.assertRaises(BadKey):
                    make(label)

    def test_the_code_is_returned_each_time(self):
        for make in WITH_CODE[:4] + WITH_CODE[6:] + WITH_CODE[4:5]:
            for code in (0, 1, 4294967295):
                key = make("a", code)
                self.assertEqual([key.code(), key.code(), key.code()], [code] * 3)

    def test_no_code(self):
        for make in WITH_CODE:
            for code in NO_CODES:
                with self.assertRaises(BadCode):
                    make("a", code)

    def test_the_label_comes_before_the_code(self):
        for make in WITH_CODE:
            with self.assertRaises(BadKey):
                make("%", -1)

    def test_matching_goes_by_the_label_alone(self):
        for make in WITH_LABEL[:5] + WITH_LABEL[6:]:
            key = make("a")
            self.assertIs(key.matches(key), True)
            for make_other in WITH_LABEL:
                self.assertIs(make("a").matches(make_other("a")), True)
                self.assertIs(make("a").matches(make_other("b")), False)
            self.assertIs(make("a").matches(Key("a", 77)), True)

    def test_labels_are_compared_by_their_signs(self):
        same = "".join(["lab", "el"])
        for make in WITH_LABEL[:5] + WITH_LABEL[6:]:
            self.assertIs(make("label").matches(Key(same, 1)), True)
            self.assertIs(make("labe").matches(Key(same, 1)), False)
            self.assertIs(make("label ").matches(Key(same, 1)), False)
            self.assertIs(make("Label").matches(Key(same, 1)), False)
            self.assertIs(make("").matches(Key("", 1)), True)

    def test_plain_keys_never_match(self):
        for make in WITH_LABEL[:5] + WITH_LABEL[6:]:
            for other in ("a", 5, None, (), ("a",)):
                self.assertIs(make("a").matches(other), False)

    def test_by_name(self):
        for make in WITH_LABEL[:5] + WITH_LABEL[6:]:
            self.assertIs(make("a").matches(other=Key("a", 1)), True)
        self.assertIs(LopsidedKey("a", 1, (7,)).matches(other="b"), 7)


class Keys(unittest.TestCase):
    def test_arguments_by_name(self):
        key = Key(code=3, label="a")
        self.assertEqual((key.label, key.code()), ("a", 3))

    def test_classes_below_key_are_matched_by_label_too(self):
        class Own(Key):
            pass

        self.assertIs(Key("a", 1).matches(Own("a", 2)), True)


class TracedKeys(unittest.TestCase):
    def test_arguments_by_name(self):
        trace = Trace()
        key = TracedKey(trace=trace, code=3, label="a")
        self.assertEqual((key.label, key.code()), ("a", 3))
        self.assertEqual(trace.events(), [("code", "a")])

    def test_every_call_is_noted_in_order(self):
        trace = Trace()
        one, other = TracedKey("a", 1, trace), TracedKey("b", 2, trace)
        self.assertEqual(trace.events(), [])
        self.assertIs(one.matches(other), False)
        self.assertEqual(other.code(), 2)
        self.assertIs(other.matches(7), False)
        self.assertIs(one.matches(Key("a", 9)), True)
        self.assertEqual(one.code(), 1)
        one.matches((1, "x"))
        one.matches(None)
        self.assertEqual(
            trace.events(),
            [
                ("matches", "a", "b"),
                ("code", "b"),
                ("matches", "b", 7),
                ("matches", "a", "a"),
                ("code", "a"),
                ("matches", "a", (1, "x")),
                ("matches", "a", None),
            ],
        )

    def test_the_other_key_is_not_asked(self):
        trace = Trace()
        TracedKey("a", 1, Trace()).matches(TracedKey("b", 2, trace))
        self.assertEqual(trace.events(), [])

    def test_the_call_is_noted_before_it_goes_on(self):
        seen = []

        class Next(Key):
            def code(self):
                seen.append(len(trace.events()))
                return 4

            def matches(self, other):
                seen.append(len(trace.events()))
                return "next"

        class Both(TracedKey, Next):
            pass

        trace = Trace()
        key = Both("a", 1, trace)
        self.assertEqual((key.code(), key.matches(1)), (4, "next"))
        self.assertEqual(seen, [1, 2])


def called(call, *arguments):
    """What a call returns, or the kind and the label of the fault that it raises."""
    try:
        return call(*arguments)
    except (CodeFault, MatchFault) as fault:
        return (type(fault), fault.label)


class FailingKeys(unittest.TestCase):
    def test_never_by_default(self):
        key = FailingKey("a", 5)
        self.assertEqual([key.code() for _ in range(9)], [5] * 9)
        self.assertEqual([key.matches(Key("a", 1)) for _ in range(9)], [True] * 9)

    def test_never_with_0(self):
        key = FailingKey("a", 5, 0, 0)
        self.assertEqual([key.code() for _ in range(9)], [5] * 9)
        self.assertEqual([key.matches(Key("b", 1)) for _ in range(9)], [False] * 9)

    def test_code_fails_at_its_number_alone(self):
        for number in (1, 2, 5):
            key = FailingKey("a", 8, number)
            expected = [8] * 7
            expected[number - 1] = (CodeFault, "a")
            self.assertEqual([called(key.code) for _ in range(7)], expected)

    def test_matches_fails_at_its_number_alone(self):
        for number in (1, 2, 5):
            key = FailingKey("a", 8, 0, number)
            expected = [True] * 7
            expected[number - 1] = (MatchFault, "a")
            self.assertEqual([called(key.matches, Key("a", 1)) for _ in range(7)], expected)

    def test_great_numbers(self):
        key = FailingKey("a", 8, int("1000"), int("1000"))
        self.assertEqual([called(key.code) for _ in range(1002)], [8] * 999 + [(CodeFault, "a"), 8, 8])
        told = [called(key.matches, 1) for _ in range(1002)]
        self.assertEqual(told, [False] * 999 + [(MatchFault, "a"), False, False])

    def test_the_methods_count_their_own_calls_in_any_order(self):
        for order in itertools.permutations("ccmm"):
            key = FailingKey(label="k", code=8, code_at=2, match_at=2)
            told = {"c": [], "m": []}
            for word in order:
                if word == "c":
                    told[word].append(called(key.code))
                else:
                    told[word].append(called(key.matches, 1))
            self.assertEqual(told, {"c": [8, (CodeFault, "k")], "m": [False, (MatchFault, "k")]})

    def test_by_name(self):
        key = FailingKey("a", 8, match_at=1)
        self.assertEqual([called(key.code), called(key.matches, 1), called(key.matches, 1)],
                         [8, (MatchFault, "a"), False])

    def test_objects_count_for_themselves(self):
        one, other = FailingKey("a", 8, 2), FailingKey("b", 8, 2)
        self.assertEqual([called(one.code), called(other.code)], [8, 8])
        self.assertEqual([called(one.code), called(other.code)], [(CodeFault, "a"), (CodeFault, "b")])


class TracedFailingKeys(unittest.TestCase):
    def test_calls_that_fail_are_noted_too(self):
        trace = Trace()
        key = TracedFailingKey("a", 8, trace, 2, 1)
        told = [
            called(key.matches, Key("b", 1)),
            called(key.code),
            called(key.code),
            called(key.matches, 5),
            called(key.code),
            called(key.matches, Key("a", 1)),
        ]
        self.assertEqual(told, [(MatchFault, "a"), 8, (CodeFault, "a"), False, 8, True])
        self.assertEqual(
            trace.events(),
            [
                ("matches", "a", "b"),
                ("code", "a"),
                ("code", "a"),
                ("matches", "a", 5),
                ("code", "a"),
                ("matches", "a", "a"),
            ],
        )

    def test_each_call_is_noted_and_counted_once(self):
        trace = Trace()
        key = TracedFailingKey("a", 8, trace, code_at=4, match_at=4)
        self.assertEqual([called(key.code) for _ in range(5)], [8, 8, 8, (CodeFault, "a"), 8])
        self.assertEqual([called(key.matches, 1) for _ in range(5)], [False] * 3 + [(MatchFault, "a"), False])
        self.assertEqual(trace.events(), [("code", "a")] * 5 + [("matches", "a", 1)] * 5)

    def test_never_by_default(self):
        key = TracedFailingKey("a", 8, Trace())
        self.assertEqual([called(key.code) for _ in range(5)], [8] * 5)
        self.assertEqual([called(key.matches, 1) for _ in range(5)], [False] * 5)

    def test_arguments_by_name(self):
        trace = Trace()
        key = TracedFailingKey(match_at=1, code_at=1, trace=trace, code=8, label="a")
        self.assertEqual([called(key.code), called(key.matches, 1)], [(CodeFault, "a"), (MatchFault, "a")])
        self.assertEqual(len(trace.events()), 2)


class DriftingKeys(unittest.TestCase):
    def test_the_codes_go_round(self):
        key = DriftingKey("a", (3, 0, 4294967295))
        self.assertEqual([key.code() for _ in range(8)], [3, 0, 4294967295, 3, 0, 4294967295, 3, 0])

    def test_questions_take_no_code(self):
        key = DriftingKey("a", (1, 2))
        self.assertEqual(key.code(), 1)
        self.assertIs(key.matches(Key("a", 1)), True)
        self.assertIs(key.matches(Key("b", 1)), False)
        self.assertEqual(key.code(), 2)

    def test_one_code(self):
        key = DriftingKey(codes=(6,), label="a")
        self.assertEqual([key.code() for _ in range(3)], [6, 6, 6])

    def test_no_codes(self):
        for codes in NO_FILLED_TUPLES + [[1, 2], (1, -1), (True,), (1, 2, None), ((1,),)]:
            with self.assertRaises(BadCode):
                DriftingKey("a", codes)

    def test_the_label_comes_before_the_codes(self):
        for codes in ((), [1], (-1,), 5):
            with self.assertRaises(BadKey):
                DriftingKey(5, codes)

    def test_objects_drift_for_themselves(self):
        codes = (1, 2)
        one, other = DriftingKey("a", codes), DriftingKey("a", codes)
        self.assertEqual([one.code(), other.code(), one.code()], [1, 1, 2])


class LopsidedKeys(unittest.TestCase):
    def test_the_answers_go_round_whatever_the_other_key_is(self):
        key = LopsidedKey("a", 1, (True, False, 1))
        others = [Key("b", 1), Key("a", 1), key, 5, None, (), "a"]
        answers = [key.matches(other) for other in others]
        self.assertEqual([repr(answer) for answer in answers], ["True", "False", "1", "True", "False", "1", "True"])

    def test_answers_may_be_anything(self):
        answers = (None, 0, "no", [], Key("a", 1), ())
        key = LopsidedKey("a", 1, answers)
        for answer in answers + answers:
            self.assertIs(key.matches(5), answer)

    def test_asking_for_the_code_takes_no_answer(self):
        key = LopsidedKey(answers=(1, 2), code=9, label="a")
        self.assertEqual([key.code(), key.matches(1), key.code(), key.matches(1), key.code()], [9, 1, 9, 2, 9])

    def test_no_answers(self):
        for answers in NO_FILLED_TUPLES + [[True, False]]:
            with self.assertRaises(BadCode):
                LopsidedKey("a", 1, answers)

    def test_the_label_comes_first(self):
        with self.assertRaises(BadKey):
            LopsidedKey("\n", 1, ())
        with self.assertRaises(BadKey):
            LopsidedKey("\n", -1, (True,))


class MeddlingKeySteps(unittest.TestCase):
    def test_each_word(self):
        for step in STEPS:
            table = Recorder()
            key = MeddlingKey("a", 1, table, (step,))
            self.assertEqual(table.calls, [])
            self.assertIs(key.matches(Key("a", 1)), True)
            self.assertEqual(table.calls, [step])
            table = Recorder()
            key = MeddlingKey("a", 6, table, (), (step,))
            self.assertEqual(key.code(), 6)
            self.assertEqual(table.calls, [step])

    def test_words_are_compared_by_their_signs(self):
        table = Recorder()
        steps = tuple(("".join(list(step[0])),) + step[1:] for step in STEPS)
        key = MeddlingKey("a", 1, table, steps)
        for _ in steps:
            key.matches(1)
        self.assertEqual(table.calls, STEPS)

    def test_what_a_step_carries_may_be_anything(self):
        value = ["value"]
        table = Recorder()
        steps = (("put", 1.5, value), ("drop", []), ("reserve", "many"), ("put", Key("k", 3), None))
        key = MeddlingKey("a", 1, table, steps)
        for _ in steps:
            key.matches(1)
        self.assertEqual(table.calls, list(steps))
        self.assertIs(table.calls[0][2], value)

    def test_no_steps(self):
        for thing in NO_STEPS:
            for place in (0, 1, 3):
                steps = (("clear",),) * place + (thing,) + (None,)
                self.assert_bad_step(place, steps)
                self.assert_bad_step(place, (), steps)

    def test_no_tuple(self):
        for steps in ([], [("clear",)], None, 5, "clear", {}, True):
            self.assert_bad_step(0, steps)
            self.assert_bad_step(0, (), steps)

    def test_a_bare_step_is_no_tuple_of_steps(self):
        self.assert_bad_step(0, ("clear",))

    def test_steps_come_before_code_steps(self):
        self.assert_bad_step(1, (("clear",), None), (None,))
        self.assert_bad_step(2, (("clear",), ("clear",), None), None)

    def test_label_and_code_come_before_steps(self):
        with self.assertRaises(BadKey):
            MeddlingKey(None, -1, Recorder(), None, None)
        with self.assertRaises(BadCode):
            MeddlingKey("a", -1, Recorder(), None, None)

    def assert_bad_step(self, index, *steps):
        with self.assertRaises(BadStep) as caught:
            MeddlingKey("a", 1, Recorder(), *steps)
        self.assertEqual(caught.exception.index, index)

    def test_the_table_is_not_checked(self):
        key = MeddlingKey("a", 1, None, (("clear",),))
        self.assertEqual((key.label, key.code()), ("a", 1))


class MeddlingKeyCalls(unittest.TestCase):
    def test_a_step_at_each_call_until_none_is_left(self):
        table = Recorder()
        key = MeddlingKey("a", 4, table, tuple(STEPS))
        for many in range(1, 7):
            self.assertIs(key.matches(Key("b", 1)), False)
            self.assertEqual(table.calls, STEPS[:many])
        self.assertIs(key.matches(Key("a", 1)), True)
        self.assertIs(key.matches(1), False)
        self.assertEqual(key.code(), 4)
        self.assertEqual(table.calls, STEPS)

    def test_code_steps_at_calls_of_code(self):
        table = Recorder()
        key = MeddlingKey("a", 4, table, (), tuple(STEPS))
        for many in range(1, 7):
            self.assertEqual(key.code(), 4)
            self.assertEqual(table.calls, STEPS[:many])
        self.assertIs(key.matches(Key("a", 1)), True)
        self.assertEqual(key.code(), 4)
        self.assertEqual(table.calls, STEPS)

    def test_both_kinds_mixed(self):
        table = Recorder()
        key = MeddlingKey("a", 4, table, (("drop", 1), ("drop", 2)), (("drop", 3), ("drop", 4)))
        key.code()
        key.matches(1)
        key.matches(1)
        key.matches(1)
        key.code()
        key.code()
        self.assertEqual(table.calls, [("drop", 3), ("drop", 1), ("drop", 2), ("drop", 4)])

    def test_arguments_by_name(self):
        table = Recorder()
        key = MeddlingKey(code_steps=(("clear",),), steps=(("shrink",),), table=table, code=4, label="a")
        self.assertEqual((key.matches(Key("a", 1)), key.code()), (True, 4))
        self.assertEqual(table.calls, [("shrink",), ("clear",)])

    def test_a_step_that_raises_is_used_up(self):
        table = Refusing()
        key = MeddlingKey("a", 4, table, (("drop", 1), ("compact",)), (("clear",), ("shrink",)))
        with self.assertRaises(Locked):
            key.matches(Key("a", 1))
        with self.assertRaises(Locked):
            key.code()
        self.assertIs(key.matches(Key("a", 1)), True)
        self.assertEqual(key.code(), 4)
        self.assertEqual(table.calls, [("drop", 1), ("clear",), ("compact",), ("shrink",)])

    def test_the_very_error_of_the_step_is_raised(self):
        error = KeyError("own")

        class Raising(Recorder):
            def compact(self):
                raise error

        key = MeddlingKey("a", 4, Raising(), (("compact",),))
        with self.assertRaises(KeyError) as caught:
            key.matches(1)
        self.assertIs(caught.exception, error)

    def test_a_step_during_which_the_key_is_asked_again(self):
        class Asking(Recorder):
            def drop(self, key):
                Recorder.drop(self, ("begin", key))
                meddler.matches(1)
                Recorder.drop(self, ("end", key))

        table = Asking()
        meddler = MeddlingKey("a", 4, table, (("drop", 1), ("drop", 2), ("clear",)))
        meddler.matches(1)
        begun = [("drop", ("begin", 1)), ("drop", ("begin", 2)), ("clear",)]
        self.assertEqual(table.calls, begun + [("drop", ("end", 2)), ("drop", ("end", 1))])

    def test_steps_are_used_up_for_one_key_only(self):
        table, steps = Recorder(), (("drop", 1), ("drop", 2))
        one, other = MeddlingKey("a", 4, table, steps, steps), MeddlingKey("a", 4, table, steps)
        one.matches(1)
        other.matches(1)
        one.code()
        self.assertEqual(table.calls, [("drop", 1)] * 3)
        self.assertEqual(steps, (("drop", 1), ("drop", 2)))

    def test_the_answer_is_given_after_the_step(self):
        class Relabelling(Recorder):
            def clear(self):
                other.label = "a"

        other = Key("b", 1)
        key = MeddlingKey("a", 4, Relabelling(), (("clear",),))
        self.assertIs(key.matches(other), True)


class Traces(unittest.TestCase):
    def test_events_in_order(self):
        trace = Trace()
        self.assertEqual(trace.events(), [])
        self.assertIsNone(trace.note(("b",)))
        trace.note(("a", 1))
        trace.note(("b",))
        self.assertEqual(trace.events(), [("b",), ("a", 1), ("b",)])

    def test_any_value(self):
        trace, event = Trace(), object()
        for value in (event, None, 1.5, "x", ()):
            trace.note(event=value)
        self.assertEqual(trace.events(), [event, None, 1.5, "x", ()])

    def test_each_returned_list_is_new(self):
        trace = Trace()
        trace.note(1)
        events = trace.events()
        self.assertIs(type(events), list)
        events.append(2)
        self.assertEqual(trace.events(), [1])
        trace.note(3)
        self.assertEqual(events, [1, 2])
        self.assertIsNot(trace.events(), trace.events())

    def test_traces_are_apart(self):
        one, other = Trace(), Trace()
        one.note(1)
        self.assertEqual((one.events(), other.events()), ([1], []))


if __name__ == "__main__":
    unittest.main()
