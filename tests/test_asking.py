"""Points 4, 5 and 6: is_key, need_key, asked_code and are_asked."""

import unittest

from entryhall.codes import code_of
from entryhall.errors import BadCode, BadKey, CodeFault, MatchFault
from entryhall.unruly import (
    DriftingKey,
    FailingKey,
    Key,
    LopsidedKey,
    MeddlingKey,
    Trace,
    TracedFailingKey,
    TracedKey,
    are_asked,
    asked_code,
    is_key,
    need_key,
)
from tests.test_codes import NO_KEYS, PLAIN_KEYS, deep


class Own(Key):
    """A key object of a class that the package does not know; it counts what it is asked."""

    def __init__(self, told_code, answer=False):
        super().__init__("own", 1)
        self.told_code = told_code
        self.answer = answer
        self.asked = []

    def code(self):
        self.asked.append("code")
        return self.told_code

    def matches(self, other):
        self.asked.append(other)
        return self.answer


def key_objects():
    return [
        Key("a", 7),
        TracedKey("a", 7, Trace()),
        FailingKey("a", 7, 1, 1),
        TracedFailingKey("a", 7, Trace(), 1, 1),
        DriftingKey("a", (7, 8)),
        LopsidedKey("a", 7, (True,)),
        MeddlingKey("a", 7, None, (("clear",),), (("clear",),)),
        Own("no code"),
    ]


class WhatIsAKey(unittest.TestCase):
    def test_plain_keys(self):
        for key in PLAIN_KEYS:
            self.assertIs(is_key(key), True)
            self.assertIsNone(need_key(key))

    def test_key_objects(self):
        for key in key_objects():
            self.assertIs(is_key(key), True)
            self.assertIsNone(need_key(key))

    def test_neither_asks_a_key(self):
        trace, own = Trace(), Own(1)
        for key in (TracedKey("a", 1, trace), TracedFailingKey("a", 1, trace, 1, 1), own):
            is_key(key)
            need_key(key)
        self.assertEqual((trace.events(), own.asked), ([], []))

    def test_no_keys(self):
        for thing in NO_KEYS + [(Key("a", 1),), Key, Trace(), deep(4), deep(5000)]:
            self.assertIs(is_key(thing), False)
            with self.assertRaises(BadKey):
                need_key(thing)

    def test_by_name(self):
        self.assertIs(is_key(thing=1), True)
        self.assertIs(is_key(thing=True), False)
        self.assertIsNone(need_key(key=1))
        with self.assertRaises(BadKey):
            need_key(key=True)


class AskedCode(unittest.TestCase):
    def test_plain_keys(self):
        for key in PLAIN_KEYS:
            self.assertEqual(asked_code(key), code_of(key))
        self.assertEqual(asked_code("ab"), 21812)

    def test_what_is_no_key_is_refused(self):
        for thing in NO_KEYS + [(Key("a", 1),), deep(4), deep(5000)]:
            with self.assertRaises(BadKey):
                asked_code(thing)

    def test_key_objects_are_asked_once(self):
        trace = Trace()
        self.assertEqual(asked_code(TracedKey("a", 9, trace)), 9)
        self.assertEqual(trace.events(), [("code", "a")])
        drifting = DriftingKey("a", (3, 4, 5))
        self.assertEqual([asked_code(drifting) for _ in range(4)], [3, 4, 5, 3])
        own = Own(4294967295)
        self.assertEqual((asked_code(own), own.asked), (4294967295, ["code"]))

    def test_what_code_raises(self):
        trace = Trace()
        key = TracedFailingKey("a", 9, trace, 2)
        self.assertEqual(asked_code(key), 9)
        with self.assertRaises(CodeFault) as caught:
            asked_code(key)
        self.assertEqual(caught.exception.label, "a")
        self.assertEqual(asked_code(key), 9)
        self.assertEqual(trace.events(), [("code", "a")] * 3)

    def test_what_is_no_code_is_refused(self):
        for code in (-1, 4294967296, True, False, None, 1.0, "1", (1,), [1], 10 ** 50):
            own = Own(code)
            with self.assertRaises(BadCode):
                asked_code(own)
            self.assertEqual(own.asked, ["code"])

    def test_by_name(self):
        self.assertEqual((asked_code(key="ab"), asked_code(key=Key("a", 5))), (21812, 5))


class AreAsked(unittest.TestCase):
    def test_the_stored_key_is_asked_with_the_given_one(self):
        for given in (5, "a", None, (1, 2), Own(1), Key("own", 1)):
            stored = Own(1, True)
            self.assertIs(are_asked(stored, given), True)
            self.assertEqual(stored.asked, [given])
            self.assertIs(stored.asked[0], given)

    def test_a_given_key_object_is_asked_with_a_stored_plain_key(self):
        for stored in (5, "a", None, (1, 2)):
            given = Own(1, True)
            self.assertIs(are_asked(stored, given), True)
            self.assertEqual(given.asked, [stored])

    def test_of_two_key_objects_the_stored_one_alone_is_asked(self):
        stored, given = Own(1, False), Own(1, True)
        self.assertIs(are_asked(stored, given), False)
        self.assertEqual((stored.asked, given.asked), ([given], []))
        self.assertIs(are_asked(given, stored), True)
        self.assertEqual((stored.asked, given.asked), ([given], [stored]))

    def test_calls_in_a_trace(self):
        trace = Trace()
        one, other = TracedKey("a", 1, trace), TracedKey("a", 2, trace)
        self.assertIs(are_asked(one, other), True)
        self.assertIs(are_asked(one, 5), False)
        self.assertIs(are_asked(5, other), False)
        self.assertEqual(trace.events(), [("matches", "a", "a"), ("matches", "a", 5), ("matches", "a", 5)])

    def test_the_same_key_object_is_asked_too(self):
        key = Own(1, False)
        self.assertIs(are_asked(key, key), False)
        self.assertEqual(key.asked, [key])

    def test_two_plain_keys_are_not_asked_and_do_not_match(self):
        for stored, given in ((1, 1), (1, 2), ("a", "a"), (None, None), ((), ()), ("a", 1)):
            self.assertIs(are_asked(stored, given), False)

    def test_only_true_matches(self):
        answers = (True, False, 1, 1.0, "True", [True], None, 0, (), Key("a", 1), True)
        key = LopsidedKey("a", 1, answers)
        self.assertEqual([are_asked(key, 5) for _ in answers], [True] + [False] * 9 + [True])
        self.assertEqual([are_asked(5, key) for _ in answers], [True] + [False] * 9 + [True])
        for answer in answers[1:-1]:
            self.assertIs(are_asked(Own(1, answer), Own(1, True)), False)

    def test_values_that_are_no_keys(self):
        for thing in (True, 1.0, [], {}, deep(5000)):
            self.assertIs(are_asked(thing, thing), False)
            own = Own(1, True)
            self.assertIs(are_asked(own, thing), True)
            self.assertIs(are_asked(thing, own), True)
            self.assertEqual(len(own.asked), 2)
            self.assertTrue(own.asked[0] is thing and own.asked[1] is thing)

    def test_what_a_question_raises(self):
        with self.assertRaises(MatchFault) as caught:
            are_asked(FailingKey("a", 1, 0, 1), Own(1, True))
        self.assertEqual(caught.exception.label, "a")
        with self.assertRaises(MatchFault):
            are_asked(5, FailingKey("a", 1, 0, 1))
        self.assertIs(are_asked(Own(1, True), FailingKey("a", 1, 0, 1)), True)

    def test_codes_are_not_asked(self):
        trace = Trace()
        are_asked(TracedKey("a", 1, trace), TracedKey("b", 2, trace))
        are_asked(5, TracedKey("b", 2, trace))
        self.assertNotIn("code", [event[0] for event in trace.events()])

    def test_by_name(self):
        stored, given = Own(1, True), Own(1, False)
        self.assertIs(are_asked(given=given, stored=stored), True)
        self.assertEqual((stored.asked, given.asked), ([given], []))


if __name__ == "__main__":
    unittest.main()
