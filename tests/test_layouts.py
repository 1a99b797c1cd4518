"""Point 81: the layout of a table is sound after every call, whatever its keys do."""

from entryhall.audit import faults, is_sound
from entryhall.errors import Absent, Fault, TableError
from entryhall.inside import Inside
from entryhall.slots import SlotTable
from entryhall.table import Table
from entryhall.unruly import DriftingKey, FailingKey, Key, LopsidedKey, MeddlingKey
from tests.helpers import Case
from tests.model import Model
from tests.oracle import faults_of
from tests.test_histories import CROWDED, PLAIN, Numbers

STEPS = [("put", 0, "x"), ("put", 8, "y"), ("drop", 0), ("drop", 8), ("clear",), ("compact",), ("shrink",),
         ("reserve", 12), ("reserve", 40), ("put", "a", 1), ("drop", "a"), ("put", 16, 2)]


class Wild(Key):
    """A key object that does anything: it drifts, fails, answers what it likes and changes the table."""

    def __init__(self, label, numbers, table):
        super().__init__(label, 0)
        self.numbers, self.table = numbers, table
        self.depth = 0

    def does(self):
        if self.depth or self.numbers.below(3):
            return
        self.depth += 1
        try:
            step = STEPS[self.numbers.below(len(STEPS))]
            getattr(self.table, step[0])(*step[1:])
        finally:
            self.depth -= 1
        if self.numbers.below(12) == 0:
            raise ZeroDivisionError

    def code(self):
        self.does()
        return [0, 8, 16, 2 ** 32 - 1, 3, -1][self.numbers.below(6 if self.numbers.below(4) == 0 else 5)]

    def matches(self, other):
        self.does()
        return self.numbers.below(4) == 0


def wild_keys(numbers, table):
    steps = tuple(STEPS[numbers.below(len(STEPS))] for _ in range(40))
    keys = [Wild(str(number), numbers, table) for number in range(6)]
    keys += [DriftingKey("d", (0, 8, 3, 16)), DriftingKey("e", (8, 0))]
    keys += [FailingKey("f", 0, 3, 2), FailingKey("g", 8, 5, 4)]
    keys += [LopsidedKey("l", 0, (True, False, 1)), LopsidedKey("m", 8, (False, False, True))]
    keys += [MeddlingKey("n", 0, table, steps), MeddlingKey("o", 8, table, steps[20:], steps[:20])]
    return keys + [0, 8, 16, 2 ** 32, "a", "b", 3]


class Layouts(Case):
    def step(self, table, key, kind, number):
        if kind < 40:
            table.put(key, number)
        elif kind < 50:
            table.set_default(key, number)
        elif kind < 60:
            table.drop(key)
        elif kind < 66:
            table.take(key)
        elif kind < 72:
            table.merge([(key, number), (8, number)], table, Table([(16, 0)]))
        elif kind < 86:
            [table.get, table.has, table.probe_count, table.fetch][number % 4](key)
        else:
            self.change(table, kind, number)

    def change(self, table, kind, number):
        if kind < 90:
            table.pop_last()
        elif kind < 92:
            table.compact()
        elif kind < 94:
            table.shrink()
        elif kind < 96:
            table.reserve(number % 50)
        elif kind < 98:
            table.remove_at(number % 7)
        elif kind == 98 and number % 5 == 0:
            table.clear()
        else:
            table.replace_at(number % 7, number)

    def run_history(self, start, steps):
        table, numbers = Table(), Numbers(start)
        keys, mark, changes = wild_keys(numbers, table), 0, 0
        for number in range(steps):
            key = keys[numbers.below(len(keys))]
            try:
                self.step(table, key, numbers.below(100), number)
            except (TableError, Absent, Fault, ZeroDivisionError):
                pass
            layout = table.layout()
            self.assertEqual(faults(layout), [])
            self.assertEqual(faults_of(layout), [])
            self.assertGreaterEqual(table.mark, mark)
            self.assertGreaterEqual(table.changes, changes)
            self.assertTrue(is_sound(table.copy().layout()))
            mark, changes = table.mark, table.changes
        return mark

    def test_long_histories_with_wild_keys(self):
        marks = [self.run_history(start, 350) for start in range(12)]
        self.assertGreater(min(marks), 100)

    def test_a_key_that_makes_the_table_grow_while_it_is_added(self):
        table = Table()
        grower = MeddlingKey("g", 0, table, tuple(("put", number, 0) for number in range(1, 16)))
        table.put(Key("k", 0), 0)
        table.put(grower, 1)
        table.put(0, 2)
        self.assertEqual(faults(table.layout()), [])

    def test_a_key_that_drops_itself_while_it_is_dropped(self):
        table = Table()
        key = MeddlingKey("k", 0, table, (("drop", 0), ("clear",)))
        table.put(key, 0)
        for _ in range(3):
            try:
                table.drop(Key("k", 0))
            except Absent:
                pass
            self.assertEqual(faults(table.layout()), [])


class EqualLayouts(Case):
    """Two tables with equal layouts answer every further call with well-behaved keys equally."""

    def test_a_table_and_one_that_was_set_back_to_its_layout(self):
        for keys in (PLAIN, CROWDED, [0, 8, Key("k", 0), Key("k", 8), Key("l", 0), 16, "a"]):
            for start in range(3):
                self.run_both(keys, Numbers(start))

    def run_both(self, keys, numbers):
        table = Table()
        for number in range(60):
            key = keys[numbers.below(len(keys))]
            table.take(key) if numbers.below(3) == 0 else table.put(key, number)
        size, row, entries, mark = table.layout()
        other = Table()
        other.set_back(Inside(SlotTable.holding(row), entries))
        start = other.mark - mark
        for number in range(120):
            key, kind = keys[numbers.below(len(keys))], numbers.below(5)
            calls = [lambda it: it.put(key, number), lambda it: it.take(key), lambda it: it.probe_count(key),
                     lambda it: it.reserve(number % 40), lambda it: it.compact()]
            self.assertEqual(calls[kind](table), calls[kind](other))
            self.assertEqual(table.layout()[:3], other.layout()[:3])
            self.assertEqual(other.mark - table.mark, start)

    def test_a_model_has_sound_layouts_too(self):
        model = Model()
        for number in range(40):
            model.put(CROWDED[number % len(CROWDED)] + number % 3, number)
        self.assertEqual(faults(model.look()[0]), [])
