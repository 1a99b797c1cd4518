"""Points 2, 20 to 23, 80 and 81, and the interface, "entryhall/audit.py"."""

from entryhall.audit import after_drop, after_put, faults, is_sound, longest_trail, looks, rebuilt
from entryhall.errors import BadKey, BadLayout, BadSize, Missing, TooLarge
from entryhall.slots import SIZES, capacity
from entryhall.table import Table
from entryhall.unruly import DriftingKey, FailingKey, Key, Trace, TracedKey
from tests.helpers import NO_INTEGERS, Case
from tests.oracle import faults_of
from tests.test_codes import NO_KEYS
from tests.test_histories import CROWDED, PLAIN, Numbers, objects

EMPTY_ROW = (-1,) * 8
NEW = (8, EMPTY_ROW, (), 0)
ONE = (8, (0,) + (-1,) * 7, ((0, 0, "a"),), 1)


def holed():
    """A layout with the entries None, 8, None and 16; the slots of both holes are still holes."""
    table = Table([(0, "a"), (8, "b"), (3, "c"), (16, "d")])
    table.drop(0)
    table.drop(3)
    return table.layout()


def rows(*places):
    """Eight slots, all empty but those in the pairs (slot, content)."""
    row = [-1] * 8
    for slot, held in places:
        row[slot] = held
    return tuple(row)


class Sound(Case):
    def test_layouts_of_tables(self):
        tables = [Table(), Table([("a", 1)]), Table([(number, 0) for number in range(50)])]
        tables.append(Table([(DriftingKey("d", (3, 4)), 0), (Key("d", 5), 1), (Key("d", 5), 2)]))
        for layout in [table.layout() for table in tables] + [holed(), NEW, ONE]:
            self.assertEqual(faults(layout), [])
            self.assertIs(is_sound(layout), True)

    def test_by_name(self):
        self.assertEqual((faults(layout=NEW), is_sound(layout=NEW)), ([], True))
        self.assertEqual((looks(layout=ONE), longest_trail(layout=ONE)), ([1], 1))
        self.assertEqual(rebuilt(layout=ONE, size=8)[3], 2)
        self.assertEqual(after_put(layout=NEW, key=0, value="a"), ONE)
        self.assertEqual(after_drop(layout=ONE, key=0), (8, (-2,) + (-1,) * 7, (None,), 2))

    def test_what_a_table_never_has_but_is_sound(self):
        # Any mark, key objects twice, identical key objects, codes that a key object would not give.
        key = Key("k", 5)
        entries = ((key, 5, 0), (key, 2, 0), (key, 5, 1))
        self.assertEqual(faults((8, rows((5, 0), (2, 1), (3, 2)), entries, 10 ** 50)), [])
        self.assertEqual(faults((8, rows((0, -2)), (None, None), 0)), [])
        self.assertEqual(faults((4096, (-1,) * 4096, (None,) * 2730, 0)), [])

    def test_what_a_key_does_is_not_asked(self):
        trace = Trace()
        layout = Table([(TracedKey("t", 5, trace), 0), (TracedKey("u", 5, trace), 0)]).layout()
        events = trace.events()
        faults(layout), is_sound(layout), looks(layout), longest_trail(layout), rebuilt(layout, 16)
        after_drop(after_put(layout, 8, 0), 8)
        self.assertEqual(trace.events(), events)


class Form(Case):
    def wrong(self, layout, *expected):
        self.assertEqual(faults(layout), list(expected))
        self.assertIs(is_sound(layout), not expected)

    def test_anything_at_all(self):
        things = NO_KEYS + NO_INTEGERS + [8, "layout", (), (8,), [], list(NEW), NEW[:3], NEW + (0,), {8: 1}, Table()]
        for thing in things:
            self.wrong(thing, ("form",))

    def test_each_part(self):
        for bad in NO_INTEGERS:
            self.wrong((bad, EMPTY_ROW, (), 0), ("form",))
            self.wrong((8, EMPTY_ROW, (), bad), ("form",))
            self.wrong((8, (-1,) * 7 + (bad,), (), 0), ("form",))
        for bad in (-1, -(10 ** 20)):
            self.wrong((8, EMPTY_ROW, (), bad), ("form",))
        for bad in (None, 5, "", list(EMPTY_ROW), {}):
            self.wrong((8, bad, (), 0), ("form",))
        for bad in (None, 5, "", [], {}, "ab"):
            self.wrong((8, EMPTY_ROW, bad, 0), ("form",))

    def test_entries(self):
        for bad in [(), (1,), (1, 1), (1, 1, 0, 0), [1, 1, 0], "abc", 5, False, {}, ((1, 1, 0),)]:
            self.wrong((8, EMPTY_ROW, (bad,), 0), ("form",))
            self.wrong((8, EMPTY_ROW, (None, bad), 0), ("form",))

    def test_a_form_that_is_wrong_is_the_only_fault(self):
        self.wrong((7, (True,), (5,), -1), ("form",))
        self.wrong((7, (-1,) * 3, (), -1), ("form",))


class Kinds(Form):
    def test_size(self):
        for bad in (0, 1, 4, 7, 9, 12, 8192, -8, 10 ** 50):
            self.wrong((bad, EMPTY_ROW, (), 0), ("size",))
            self.wrong((bad, (), ((1, 1, 1),) * 9, 0), ("size",))

    def test_slots(self):
        for row in [(), (-1,), (-1,) * 7, (-1,) * 9, (-1,) * 16, (5,) * 9]:
            self.wrong((8, row, (), 0), ("slots",))
        self.wrong((16, EMPTY_ROW, ((1, 2, 3),) * 20, 0), ("slots",))

    def test_room(self):
        self.wrong((8, EMPTY_ROW, (None,) * 5, 0))
        self.wrong((8, EMPTY_ROW, (None,) * 6, 0), ("room",))
        # A full row has no end but that of the path, and each index is in a trail.
        full = tuple((number, number, 0) for number in range(8))
        self.wrong((8, tuple(range(8)), full, 0), ("room",))

    def test_slot(self):
        for bad in (-3, -(10 ** 30), 1, 2, 10 ** 30):
            self.wrong((8, rows((0, 0), (4, bad)), ((0, 0, "a"),), 0), ("slot", 4))
        self.wrong((8, rows((0, 1), (1, 0)), ((1, 1, "a"), None), 0), ("slot", 0))
        self.wrong((8, rows((0, 9), (7, -9)), (), 0), ("slot", 0), ("slot", 7))

    def test_twice(self):
        self.wrong((8, rows((0, 0), (3, 0), (5, 0)), ((0, 0, "a"),), 0), ("twice", 3), ("twice", 5))
        # A hole is no live entry, however often its index is held.
        self.wrong((8, rows((0, 0), (3, 0)), (None,), 0), ("slot", 0), ("slot", 3))

    def test_key(self):
        for bad in NO_KEYS + [(Key("k", 1),)]:
            self.wrong((8, rows((5, 0)), ((bad, 5, 0),), 0), ("key", 0))
        self.wrong((8, rows((5, 0), (1, 1)), (("no\n", 5, 0), (Key("k", 1), 1, 0)), 0), ("key", 0))

    def test_code(self):
        for bad in NO_INTEGERS + [-1, 2 ** 32]:
            self.wrong((8, rows((5, 0)), ((Key("k", 5), bad, 0),), 0), ("code", 0))
            self.wrong((8, rows((5, 0)), ((5, bad, 0),), 0), ("code", 0))
        self.wrong((8, rows((5, 0)), ((4, 5, 0),), 0), ("code", 0))
        self.wrong((8, rows((5, 0)), ((2 ** 32 + 5, 5, 0),), 0))
        self.wrong((8, rows((5, 0)), ((-3, 5, 0),), 0), ("code", 0))

    def test_lost(self):
        self.wrong((8, EMPTY_ROW, ((5, 5, 0),), 0), ("lost", 0))
        self.wrong((8, rows((4, 0)), ((5, 5, 0),), 0), ("lost", 0))
        # Code 8 goes along 0, 1, 6: the entry is lost behind an empty slot, and not behind a hole.
        self.wrong((8, rows((1, 0)), ((8, 8, 0),), 0), ("lost", 0))
        self.wrong((8, rows((0, -2), (1, 0)), ((8, 8, 0), None), 0))

    def test_same(self):
        self.wrong((8, rows((5, 0), (2, 1)), ((5, 5, 0), (5, 5, 1)), 0), ("same", 1))
        self.wrong((8, rows((5, 0), (2, 1), (3, 2)), ((5, 5, 0), (5, 5, 1), (5, 5, 2)), 0), ("same", 1), ("same", 2))
        self.wrong((8, rows((5, -2), (2, 1)), (None, (5, 5, 1)), 0))
        self.wrong((8, rows((5, 0), (2, 1)), ((5, 5, 0), (2 ** 32 + 5, 5, 1)), 0))

    def test_holes(self):
        self.wrong((8, rows((3, -2)), (), 0), ("holes",))
        self.wrong((8, rows((3, -2), (4, -2)), (None,), 0), ("holes",))
        self.wrong((8, rows((3, -2)), (None, None), 0))

    def test_several_at_once_in_the_order_of_the_document(self):
        entries = ((True, 5, 0), (4, True, 0), None, (1, 1, 0), (1, 1, 0), ([], -1, 0))
        layout = (8, (3, 3, 2, -2, -2, 0, -7, 9), entries, 0)
        self.wrong(layout, ("room",), ("twice", 1), ("slot", 2), ("slot", 6), ("slot", 7), ("key", 0), ("code", 1),
                   ("lost", 4), ("same", 4), ("key", 5), ("code", 5), ("holes",))
        # One entry can have three faults.
        layout = (8, rows((5, 0)), ((5, 5, 0), (5, 6, 0)), 0)
        self.wrong(layout, ("code", 1), ("lost", 1), ("same", 1))
        layout = (8, EMPTY_ROW, ((1.5, 6, 0), (1.5, "x", 0)), 0)
        self.wrong(layout, ("key", 0), ("lost", 0), ("key", 1), ("code", 1))

    def test_layouts_with_something_changed_against_an_oracle(self):
        numbers = Numbers(3)
        for layout in [holed(), Table([(key, 0) for key in CROWDED[:9] + objects()]).layout(), NEW]:
            for _ in range(1500):
                changed = self.changed(layout, numbers)
                self.assertEqual(faults(changed), faults_of(changed))

    def changed(self, layout, numbers):
        size, row, entries, mark = layout[0], list(layout[1]), list(layout[2]), layout[3]
        for _ in range(1 + numbers.below(4)):
            kind, at = numbers.below(6), numbers.below(len(row))
            index = numbers.below(len(entries)) if entries else 0
            if kind < 3:
                row[at] = [-1, -2, -3, numbers.below(12), index][numbers.below(5)]
            elif kind == 3 and entries:
                entries[index] = [None, (PLAIN[numbers.below(8)], 8, 0), (True, 3, 0), (Key("k", 1), -1, 0)][at % 4]
            elif kind == 4:
                entries.append([None, (0, 0, 0), (8, 8, 0), (Key("k", 1), 0, 0)][at % 4])
            elif entries:
                entries[index] = entries[numbers.below(len(entries))]
        return size, tuple(row), tuple(entries), mark

    def test_a_new_list_each_time(self):
        layout = (7, EMPTY_ROW, (), 0)
        faults(layout).append("more")
        self.assertEqual(faults(layout), [("size",)])
        looks(ONE).append("more")
        self.assertEqual(looks(ONE), [1])


class Looks(Case):
    def test_worked_out(self):
        self.assertEqual((looks(NEW), longest_trail(NEW)), ([], 0))
        self.assertEqual((looks(ONE), longest_trail(ONE)), ([1], 1))
        # 8 has slot 1 and 16 has slot 6 of the path 0, 1, 6.
        self.assertEqual((looks(holed()), longest_trail(holed())), ([None, 2, None, 3], 3))
        self.assertEqual(looks((8, EMPTY_ROW, (None, None), 5)), [None, None])
        self.assertEqual(longest_trail((8, EMPTY_ROW, (None, None), 5)), 0)

    def test_a_trail_that_comes_to_a_slot_several_times(self):
        # The path of 4294967295 is 7, 3, 7, 3, 7, 3, 3, 0.
        table = Table([(7, "plain"), (3, "three"), (2 ** 32 - 1, "last")])
        self.assertEqual(table.slot_at(0), 2)
        self.assertEqual((looks(table.layout()), longest_trail(table.layout())), ([1, 1, 8], 8))
        table = Table([(7, "plain"), (2 ** 32 - 1, "last")])
        self.assertEqual(looks(table.layout()), [1, 2])

    def test_they_are_the_probe_counts(self):
        for keys in (CROWDED, PLAIN, list(range(100))):
            table = Table([(key, 0) for key in keys])
            for key in keys[::3]:
                table.drop(key)
            counts = [None if entry is None else table.probe_count(entry[0]) for entry in table.layout()[2]]
            self.assertEqual(looks(table.layout()), counts)
            self.assertEqual(longest_trail(table.layout()), max(count for count in counts if count))


class Rebuilt(Case):
    def test_worked_out(self):
        entries = ((8, 8, "b"), (16, 16, "d"))
        self.assertEqual(rebuilt(holed(), 8), (8, rows((0, 0), (1, 1)), entries, 7))
        self.assertEqual(rebuilt(holed(), 16), (16, (1,) + (-1,) * 7 + (0,) + (-1,) * 7, entries, 7))
        self.assertEqual(rebuilt(NEW, 4096), (4096, (-1,) * 4096, (), 1))

    def test_each_size(self):
        for keys in ([], CROWDED, list(range(100)), objects()):
            table = Table([(key, 0) for key in keys])
            for key in keys[::4]:
                table.take(key)
            layout = table.layout()
            for size in SIZES:
                if capacity(size) < table.live:
                    self.refused(BadSize, rebuilt, layout, size)
                    continue
                made = rebuilt(layout, size)
                self.assertEqual((made[0], made[3], faults(made)), (size, layout[3] + 1, []))
                self.assertEqual(made[2], tuple(entry for entry in layout[2] if entry))
                copy = Table(table)
                copy.reserve(min(600, capacity(size)))
                if copy.size == size and capacity(size) <= 600:
                    copy.compact()
                    self.assertEqual(made[1], copy.layout()[1])

    def test_as_the_calls_of_a_table(self):
        table = Table([(number * 7, 0) for number in range(11)])
        for number in range(6):
            table.drop(number * 7)
        for call, size in [(table.compact, 32), (table.shrink, 8), (lambda: table.reserve(30), 64)]:
            expected = rebuilt(table.layout(), size)
            call()
            self.assertEqual(table.layout(), expected)

    def test_the_entries_must_fit(self):
        layout = Table([(number, 0) for number in range(6)]).layout()
        self.refused(BadSize, rebuilt, layout, 8)
        self.assertEqual(rebuilt(layout, 16)[0], 16)

    def test_no_sizes(self):
        for bad in NO_INTEGERS + [0, -8, 1, 7, 9, 24, 8192, 10 ** 40]:
            self.refused(BadSize, rebuilt, holed(), bad)


class After(Case):
    def test_the_example_of_the_document(self):
        layout = Table([(1, "a"), (9, "b")]).layout()
        layout = after_drop(layout, 1)
        self.assertEqual(layout, (8, rows((1, -2), (6, 1)), (None, (9, 9, "b")), 3))
        layout = after_put(layout, 17, "c")
        self.assertEqual(layout, (8, rows((1, 2), (6, 1)), (None, (9, 9, "b"), (17, 17, "c")), 4))

    def test_histories_of_a_table(self):
        for keys in (PLAIN, CROWDED, list(range(60))):
            numbers, table = Numbers(len(keys)), Table()
            for number in range(400):
                key, layout = keys[numbers.below(len(keys))], table.layout()
                if numbers.below(5) < 3 - (number > 200):
                    table.put(key, number)
                    self.assertEqual(after_put(layout, key, number), table.layout())
                elif table.has(key):
                    table.drop(key)
                    self.assertEqual(after_drop(layout, key), table.layout())
                else:
                    self.assertEqual(self.refused(Missing, after_drop, layout, key), key)

    def test_growth_and_replaced_values(self):
        table = Table([(number, number) for number in range(5)])
        value = []
        layout = after_put(table.layout(), 5, value)
        self.assertEqual((layout[0], len(layout[2]), layout[3]), (16, 6, 7))
        self.assertIs(layout[2][5][2], value)
        replaced = after_put(layout, 5, "new")
        self.assertEqual((replaced[:2], replaced[2][5], replaced[3]), (layout[:2], (5, 5, "new"), 7))

    def test_beside_key_objects_with_other_codes(self):
        table = Table([(FailingKey("f", 8, 0, 1), "f"), (Key("k", 16), "k"), (0, "zero")])
        layout = after_put(table.layout(), 24, "new")
        self.assertEqual(layout[2][3], (24, 24, "new"))
        self.assertEqual(after_drop(layout, 0)[2][2], None)

    def test_no_plain_keys(self):
        for bad in NO_KEYS + [Key("k", 1), (Key("k", 1),)]:
            self.refused(BadKey, after_put, holed(), bad, 1)
            self.refused(BadKey, after_drop, holed(), bad)

    def test_a_key_object_with_the_same_code(self):
        layout = Table([(8, "eight"), (Key("k", 8), "k")]).layout()
        for key in (8, 2 ** 32 + 8):
            self.refused(BadKey, after_put, layout, key, 1)
            self.refused(BadKey, after_drop, layout, key)
        # A key object that is a hole is none.
        table = Table([(8, "eight"), (Key("k", 8), "k")])
        table.remove_at(1)
        self.assertEqual(after_put(table.layout(), 8, "new")[2], ((8, 8, "new"), None))

    def test_600_entries(self):
        layout = Table([(number, 0) for number in range(600)]).layout()
        self.assertEqual(self.refused(TooLarge, after_put, layout, -1, 0), 600)
        self.assertEqual(after_put(layout, 5, "new")[2][5], (5, 5, "new"))
        self.assertEqual(after_put(after_drop(layout, 5), -1, 0)[2][600], (-1, 2 ** 32 - 1, 0))

    def test_more_than_600_entries(self):
        entries = tuple((number, number, 0) for number in range(700))
        layout = (2048, tuple(range(700)) + (-1,) * 1348, entries, 3)
        self.assertIs(is_sound(layout), True)
        self.assertEqual(self.refused(TooLarge, after_put, layout, 700, 0), 600)
        self.assertEqual(after_put(layout, 699, 1)[3], 3)
        self.assertEqual(after_drop(layout, 699)[3], 4)

    def test_what_is_passed_stays(self):
        layout, again = holed(), holed()
        after_put(layout, 24, 0), after_drop(layout, 8), rebuilt(layout, 16), looks(layout), faults(layout)
        self.assertEqual(layout, again)


class Errors(Case):
    CALLS = [looks, longest_trail, lambda layout: rebuilt(layout, 7), lambda layout: after_put(layout, True, 1),
             lambda layout: after_drop(layout, True)]

    def test_layouts_with_a_fault(self):
        for layout, fault in [(None, ("form",)), ((7, EMPTY_ROW, (), 0), ("size",)), ((8, (), (), 0), ("slots",)),
                              ((8, rows((3, 9), (4, -2)), (), 0), ("slot", 3)),
                              ((8, EMPTY_ROW, ((5, 6, 0),), 0), ("code", 0)),
                              ((8, rows((4, -2)), (), 0), ("holes",))]:
            for call in self.CALLS:
                self.assertEqual(self.refused(BadLayout, call, layout), fault)

    def test_the_order_of_the_errors(self):
        full = Table([(number, 0) for number in range(599)] + [(Key("k", 2 ** 32 - 1), 0)]).layout()
        self.refused(BadKey, after_put, full, Key("k", 5), 0)
        self.refused(BadKey, after_put, full, -1, 0)
        self.assertEqual(self.refused(TooLarge, after_put, full, -2, 0), 600)
        self.refused(BadKey, after_drop, full, -1)
        self.assertEqual(self.refused(Missing, after_drop, full, -2), -2)
