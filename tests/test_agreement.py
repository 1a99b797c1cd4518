"""Point 82: a PairList, a Table and a plain list answer alike, where the keys are well-behaved."""

from entryhall.errors import Absent, Fault, TableError
from entryhall.pairs import PairList
from entryhall.table import Table
from entryhall.unruly import Key
from tests.helpers import Case
from tests.model import are_equal, own_code
from tests.test_histories import CROWDED, PLAIN, Numbers, objects


class Plain:
    """What the document says of pairs, with nothing but a list."""

    def __init__(self):
        self.pairs = []

    def at(self, key):
        for index, (stored, _) in enumerate(self.pairs):
            if own_code(stored) == own_code(key) and are_equal(stored, key):
                return index
        return None

    def put(self, key, value):
        at = self.at(key)
        if at is not None:
            self.pairs[at] = (self.pairs[at][0], value)
        elif len(self.pairs) == 600:
            return "TooLarge", 600
        else:
            self.pairs.append((key, value))

    def get(self, key, default=None):
        return default if self.at(key) is None else self.pairs[self.at(key)][1]

    def fetch(self, key):
        return ("Missing", key) if self.at(key) is None else self.get(key)

    def has(self, key):
        return self.at(key) is not None

    def drop(self, key):
        if self.at(key) is None:
            return "Missing", key
        del self.pairs[self.at(key)]

    def take(self, key, default=None):
        return default if self.at(key) is None else self.pairs.pop(self.at(key))[1]

    def set_default(self, key, value=None):
        if self.at(key) is None:
            told = self.put(key, value)
            return told if told else value
        return self.get(key)

    def pop_last(self):
        return self.pairs.pop() if self.pairs else "Empty"

    def clear(self):
        self.pairs.clear()

    def merge(self, *others, **more):
        for source in [list(other) for other in others] + [list(more.items())]:
            for key, value in source:
                told = self.put(key, value)
                if told:
                    return told


def answer(called, name, *given, **named):
    """What a call returns, or the error that it raises."""
    try:
        return getattr(called, name)(*given, **named)
    except Absent as error:
        kind = type(error).__name__
        return (kind, error.key) if kind == "Missing" else kind
    except Fault as error:
        return type(error).__name__, error.limit


class Agreement(Case):
    def check(self, three):
        plain, pairs, table = three
        self.assertEqual(list(pairs.each_pair()), plain.pairs)
        self.assertEqual(list(table.each_pair()), plain.pairs)
        self.assertEqual((pairs.live, table.live), (len(plain.pairs), len(plain.pairs)))
        self.assertTrue(pairs.agrees(table))

    def call(self, three, name, *given, **named):
        told = [answer(called, name, *given, **named) for called in three]
        self.assertEqual(told, [told[0]] * 3)

    def step(self, three, keys, numbers, number):
        key = keys[numbers.below(len(keys))]
        kind = numbers.below(100)
        if kind < 40:
            self.call(three, "put", key, number)
        elif kind < 88:
            names = ["set_default", "get", "take", "fetch", "has", "drop"]
            name = names[kind % 6]
            more = {"set_default": [number], "get": ["none"], "take": ["none"]}.get(name, [])
            self.call(three, name, key, *more)
        elif kind < 94:
            self.call(three, "pop_last")
        elif kind < 99:
            more = [(keys[numbers.below(len(keys))], number) for _ in range(4)]
            self.call(three, "merge", more, tuple(more[:2]), a=number, b=kind)
        else:
            self.call(three, "clear")

    def run_history(self, keys, start, steps):
        three, numbers = (Plain(), PairList(), Table()), Numbers(start)
        for number in range(steps):
            self.step(three, keys, numbers, number)
            self.check(three)

    def test_plain_keys(self):
        for start in range(4):
            self.run_history(PLAIN, start, 300)
            self.run_history(CROWDED, start, 300)

    def test_key_objects_with_equal_codes(self):
        for start in range(6):
            self.run_history(objects() + [0, 8, 561, "a", "b"], start, 300)

    def test_many_keys(self):
        keys = list(range(200)) + [Key(str(number % 30), number % 12) for number in range(100)]
        self.run_history(keys, 1, 800)

    def test_up_to_600_pairs_and_beyond(self):
        three = Plain(), PairList(), Table()
        for number in range(603):
            self.call(three, "put", number * 31, number)
        self.check(three)
        for name, given in [("set_default", (-1, 0)), ("put", (31, "new")), ("set_default", (62, 0)),
                            ("merge", ([(93, "x"), (-2, 0), (31, "y")],)), ("pop_last", ()), ("put", (-1, 0)),
                            ("take", (0,)), ("drop", (0,)), ("clear", ()), ("pop_last", ())]:
            self.call(three, name, *given)
            self.check(three)

    def test_copies_and_comparisons(self):
        numbers = Numbers(5)
        keys = objects() + PLAIN
        rows = [[(keys[numbers.below(len(keys))], number % 3) for number in range(many % 4)] for many in range(60)]
        for row in rows:
            pairs, table = PairList(row), Table(row)
            self.assertTrue(pairs.copy().same_pairs(pairs) and table.copy().same_pairs(table))
            for other in rows:
                same = Table(other).same_pairs(table)
                self.assertEqual(PairList(other).same_pairs(pairs), same)
                self.assertEqual(PairList(other).agrees(table), same)

    def test_merges_of_one_into_the_other(self):
        for start in range(4):
            numbers, keys = Numbers(start), objects() + PLAIN
            rows = [[(keys[numbers.below(len(keys))], number) for number in range(12)] for _ in range(3)]
            plain, pairs, table = Plain(), PairList(), Table()
            plain.merge(*[list(Table(row).each_pair()) for row in rows])
            pairs.merge(Table(rows[0]), PairList(rows[1]), rows[2])
            table.merge(Table(rows[0]), Table(rows[1]), rows[2])
            self.check((plain, pairs, table))

    def test_the_families_of_errors(self):
        for called in (PairList(), Table()):
            for name, given, family in [("put", (True, 1), TableError), ("merge", (5,), TableError),
                                        ("fetch", (1,), Absent), ("pop_last", (), Absent)]:
                with self.assertRaises(family):
                    getattr(called, name)(*given)
