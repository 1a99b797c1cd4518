"""Points 2, 8 and 9, and the interface, "entryhall/pictures.py"."""

import itertools

from entryhall.errors import BadPicture, Missing
from entryhall.pictures import Picture, steps_between
from entryhall.table import Table
from entryhall.unruly import DriftingKey, FailingKey, Key, TracedFailingKey, Trace
from tests.helpers import Case, Row
from tests.test_codes import NO_KEYS

NO_PAIRS = [None, 5, "ab", ("a",), ("a", 1, 2), (), ["a", 1], {"a": 1}, ("a", 1)[:1]]
NO_PICTURES = [None, 5, "ab", [], [("a", 1)], (("a", 1),), {}, {"a": 1}, Table(), True, Picture]


class Making(Case):
    def test_pairs(self):
        pairs = [("b", 1), ("a", [2]), (None, 3), ((1, "a"), None)]
        picture = Picture(pairs)
        self.assertEqual(picture.pairs, tuple(pairs))
        self.assertIs(type(picture.pairs), tuple)
        self.assertIs(picture.pairs[1][1], pairs[1][1])
        self.assertEqual(Picture(tuple(pairs)).pairs, tuple(pairs))
        self.assertEqual(Picture(pairs=Row(pairs)).pairs, tuple(pairs))
        self.assertEqual((Picture([]).pairs, Picture(()).pairs), ((), ()))

    def test_the_list_is_not_kept(self):
        pairs = [("a", 1), ("b", 2)]
        picture = Picture(pairs)
        pairs.pop()
        pairs.append(("c", 3))
        self.assertEqual(picture.pairs, (("a", 1), ("b", 2)))
        self.assertEqual(pairs, [("a", 1), ("c", 3)])

    def test_pairs_cannot_be_set(self):
        picture = Picture([("a", 1)])
        with self.assertRaises(AttributeError):
            picture.pairs = ()
        with self.assertRaises(TypeError):
            picture["a"] = 2

    def test_neither_list_nor_tuple(self):
        for thing in [None, 5, "", "ab", {}, {"a": 1}, Picture([]), Table(), iter([]), True, {("a", 1)}]:
            self.assertEqual(self.refused(BadPicture, Picture, thing), 0)

    def test_the_first_wrong_item(self):
        for many in (0, 1, 4):
            good = [(number, number) for number in range(many)]
            for bad in NO_PAIRS + [(key, 1) for key in NO_KEYS]:
                self.assertEqual(self.refused(BadPicture, Picture, good + [bad, None]), many)
                self.assertEqual(self.refused(BadPicture, Picture, tuple(good + [bad])), many)

    def test_a_key_that_an_earlier_item_has(self):
        key = Key("a", 1)
        for same in ["a", 0, None, (), (1, ("b",)), key]:
            pairs = [("x", 1), (same, 1), ("y", 1), (same, 1), None]
            self.assertEqual(self.refused(BadPicture, Picture, pairs), 3)
        self.assertEqual(self.refused(BadPicture, Picture, [("x", 1), None, ("x", 1)]), 1)

    def test_different_key_objects_are_different_keys(self):
        one, other = Key("a", 561), Key("a", 561)
        self.assertEqual(len(Picture([(one, 1), (other, 1), ("a", 1)]).pairs), 3)

    def test_the_picture_of_a_table(self):
        table = Table([("a", 1), ("b", 2), (Key("k", 3), 4), ("c", 5)])
        table.drop("b")
        picture = Picture.of(table)
        self.assertIs(type(picture), Picture)
        self.assertEqual(picture.pairs, tuple(table.each_pair()))
        table.put("a", 9)
        self.assertEqual(picture["a"], 1)
        self.assertEqual(Picture.of(table=Table()).pairs, ())

    def test_a_table_that_holds_one_key_object_twice_has_no_picture(self):
        table, key = Table([("x", 0)]), DriftingKey("d", (1, 2))
        table.put(key, 1)
        table.put(key, 2)
        self.assertEqual(table.live, 3)
        self.assertEqual(self.refused(BadPicture, Picture.of, table), 2)


class Reading(Case):
    def setUp(self):
        self.own = Key("k", 7)
        self.picture = Picture([(1, "one"), ("a", None), ((1, 2), 3), (self.own, "own"), (None, "none")])

    def test_keys_that_are_there(self):
        keys = [1, "a", (1, 2), self.own, None]
        self.assertEqual([self.picture.first(key) for key in keys], [0, 1, 2, 3, 4])
        self.assertEqual([self.picture[key] for key in keys], ["one", None, 3, "own", "none"])
        for key in keys:
            self.assertIs(key in self.picture, True)
        self.assertEqual(self.picture.first(key=1), 0)

    def test_the_very_value(self):
        value = [1]
        self.assertIs(Picture([("a", value)])["a"], value)

    def test_keys_and_other_values_that_are_not_there(self):
        for thing in [2, "b", (), (2, 1), Key("k", 7), (1, "one"), 0] + NO_KEYS:
            self.assertEqual(self.picture.first(thing), -1)
            self.assertIs(thing in self.picture, False)
            self.assertIs(self.refused(Missing, self.picture.__getitem__, thing), thing)

    def test_what_only_equals_a_key(self):
        for thing in (True, 1.0, (1.0, 2), (True, 2), [1, 2]):
            self.assertEqual(self.picture.first(thing), -1)
            self.assertNotIn(thing, self.picture)
            with self.assertRaises(Missing):
                self.picture[thing]

    def test_truth(self):
        self.assertIs(bool(Picture([])), False)
        self.assertIs(bool(Picture([(0, 0)])), True)
        self.assertIs(bool(self.picture), True)


class Operators(Case):
    def setUp(self):
        self.own, self.other = Key("k", 1), Key("k", 1)
        self.p = Picture([("a", 1), (self.own, 2), ("b", 3), (4, 5)])
        self.q = Picture([("c", 6), ("b", 30), (self.other, 7), ("a", 1), (self.own, 20)])

    def test_or(self):
        joined = self.p | self.q
        expected = (("a", 1), (self.own, 20), ("b", 30), (4, 5), ("c", 6), (self.other, 7))
        self.assertIs(type(joined), Picture)
        self.assertEqual(joined.pairs, expected)
        expected = (("c", 6), ("b", 3), (self.other, 7), ("a", 1), (self.own, 2), (4, 5))
        self.assertEqual((self.q | self.p).pairs, expected)

    def test_and(self):
        self.assertEqual((self.p & self.q).pairs, (("a", 1), (self.own, 2), ("b", 3)))
        self.assertEqual((self.q & self.p).pairs, (("b", 30), ("a", 1), (self.own, 20)))

    def test_minus(self):
        self.assertEqual((self.p - self.q).pairs, ((4, 5),))
        self.assertEqual((self.q - self.p).pairs, (("c", 6), (self.other, 7)))

    def test_with_itself_and_with_an_empty_one(self):
        p, empty = self.p, Picture(())
        self.assertTrue(p | p == p and p & p == p and p - p == empty)
        self.assertTrue(p | empty == p and empty | p == p and p - empty == p)
        self.assertTrue(p & empty == empty and empty & p == empty and empty - p == empty)

    def test_the_operands_stay_as_they_are(self):
        pairs = self.p.pairs, self.q.pairs
        results = [self.p | self.q, self.p & self.q, self.p - self.q]
        self.assertEqual((self.p.pairs, self.q.pairs), pairs)
        for result in results:
            self.assertNotIn(result, [self.p, self.q])

    def test_equal(self):
        again = Picture(list(self.p.pairs))
        self.assertIs(self.p == again, True)
        self.assertIs(self.p != again, False)
        self.assertIs(Picture([("a", 1)]) == Picture((("a", 1.0),)), True)

    def test_different(self):
        pairs = list(self.p.pairs)
        others = [pairs[:3], pairs[::-1], pairs + [("z", 1)], pairs[:3] + [(4, 6)], pairs[:3] + [(5, 5)], []]
        others.append([pair if pair[0] != self.own else (self.other, 2) for pair in pairs])
        for other in others:
            self.assertIs(self.p == Picture(other), False)
            self.assertIs(self.p != Picture(other), True)

    def test_a_picture_equals_nothing_else(self):
        for thing in NO_PICTURES + [self.p.pairs, list(self.p.pairs)]:
            self.assertIs(self.p == thing, False)
            self.assertIs(thing == self.p, False)

    def test_other_operands(self):
        for thing in NO_PICTURES + [self.p.pairs]:
            for call in (self.p.__or__, self.p.__and__, self.p.__sub__):
                self.assertIs(call(thing), NotImplemented)

    def test_keys_are_never_asked(self):
        trace = Trace()
        keys = [TracedFailingKey("k", 9, trace, 1, 1) for _ in range(3)]
        p, q = Picture([(keys[0], 1), (keys[1], 2)]), Picture([(keys[2], 3), (keys[1], 4)])
        results = [p | q, p & q, p - q, p == q, p.first(keys[2]), keys[2] in p, q[keys[1]], bool(p)]
        self.assertEqual(results[3:], [False, -1, False, 4, True])
        steps_between(p, q)
        self.assertEqual(trace.events(), [])


def occurs(keys, row):
    """Whether the keys occur in a row in this order."""
    left = iter(row)
    return all(key in left for key in keys)


def worked_steps(p, q):
    """The steps as point 9 counts them."""
    keys = [key for key, _ in q]
    m = max(many for many in range(len(q) + 1) if occurs(keys[:many], [key for key, _ in p]))
    stay = dict(q[:m])
    drops = [("drop", key) for key, _ in p if key not in stay]
    return drops + [("put", key, value) for key, value in q if key not in stay or dict(p)[key] != value]


class Steps(Case):
    def test_the_example_of_the_document(self):
        steps = steps_between(Picture([("a", 1), ("b", 2)]), Picture([("b", 3), ("a", 1)]))
        self.assertEqual(steps, [("drop", "a"), ("put", "b", 3), ("put", "a", 1)])

    def test_worked_out_steps(self):
        p = Picture([("a", 1), ("b", 2), ("c", 3), ("d", 4)])
        for pairs, steps in [
            ([("a", 1), ("b", 2), ("c", 3), ("d", 4)], []),
            ([("a", 1), ("b", 0), ("c", 3), ("d", 0)], [("put", "b", 0), ("put", "d", 0)]),
            ([("b", 2), ("d", 4)], [("drop", "a"), ("drop", "c")]),
            ([("d", 4), ("a", 1)], [("drop", "a"), ("drop", "b"), ("drop", "c"), ("put", "a", 1)]),
            ([("a", 1), ("c", 3), ("b", 2)], [("drop", "b"), ("drop", "d"), ("put", "b", 2)]),
            ([("a", 1), ("x", 9), ("b", 2), ("c", 3)],
             [("drop", "b"), ("drop", "c"), ("drop", "d"), ("put", "x", 9), ("put", "b", 2), ("put", "c", 3)]),
            ([], [("drop", "a"), ("drop", "b"), ("drop", "c"), ("drop", "d")]),
        ]:
            self.assertEqual(steps_between(p, Picture(pairs)), steps)
        self.assertEqual(steps_between(one=Picture([]), other=Picture([("a", 1)])), [("put", "a", 1)])
        self.assertEqual(steps_between(Picture([]), Picture([])), [])

    def test_all_small_pictures(self):
        rows = [row for many in range(4) for row in itertools.permutations("abc", many)]
        for one in rows:
            for other in rows:
                p = [(key, 1) for key in one]
                for values in itertools.product((1, 2), repeat=len(other)):
                    self.check(p, list(zip(other, values)))

    def check(self, p, q):
        steps = steps_between(Picture(p), Picture(q))
        self.assertIs(type(steps), list)
        self.assertEqual(steps, worked_steps(p, q))
        table = Table(p)
        for word, *rest in steps:
            {"drop": table.drop, "put": table.put}[word](*rest)
        self.assertEqual(list(table.each_pair()), q)

    def test_with_key_objects(self):
        one, other = Key("k", 7), Key("m", 7)
        self.check([(one, 1), ("a", 2), (other, 3)], [("a", 2), (other, 4), (one, 1)])
        failing = FailingKey("k", 7, 1, 1)
        steps = steps_between(Picture([(one, 1)]), Picture([(failing, 1)]))
        self.assertEqual(steps, [("drop", one), ("put", failing, 1)])

    def test_an_equal_picture_is_no_step_away(self):
        odd = float("nan")
        self.assertEqual(Picture([("a", odd)]), Picture([("a", odd)]))
        self.assertEqual(steps_between(Picture([("a", odd)]), Picture([("a", odd)])), [])

    def test_what_is_no_picture(self):
        picture = Picture([("a", 1)])
        for thing in NO_PICTURES:
            self.assertEqual(self.refused(BadPicture, steps_between, thing, picture), 0)
            self.assertEqual(self.refused(BadPicture, steps_between, picture, thing), 1)
            self.assertEqual(self.refused(BadPicture, steps_between, thing, thing), 0)
