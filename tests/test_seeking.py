"""Points 2 and 30 to 34, and the interface, "entryhall/seeking.py"."""

from entryhall.errors import BadCode, BadKey, CodeFault, MatchFault, Unsettled
from entryhall.seeking import asked_at, place_for, seek, seek_key, trail
from entryhall.slots import first_slots
from entryhall.table import Table
from entryhall.unruly import FailingKey, Key, LopsidedKey, Trace, TracedFailingKey, TracedKey
from tests.helpers import Case, look
from tests.test_codes import NO_KEYS
from tests.test_lookups import meddled
from tests.test_slots import NO_CODES
from tests.test_tables import Small, holed


class Trails(Case):
    def test_the_example_of_the_document(self):
        table = Table([(1, "a"), (9, "b")])
        self.assertEqual(trail(table, 9), [(1, 0), (6, 1), (7, -1)])
        self.assertEqual((seek(table, 9, 9), seek(table, 17, 17), place_for(table, 17)), ((6, 1, 2), (7, -1, 3), 7))

    def test_trails(self):
        table = holed()
        self.assertEqual(trail(table, 0), [(0, -2), (1, 1), (6, 3), (7, -1)])
        self.assertEqual(trail(table=table, code=3), [(3, -2), (0, -2), (1, 1), (6, 3), (7, -1)])
        self.assertEqual(trail(table, 2), [(2, -1)])
        self.assertEqual(trail(Table(), 4294967295), [(7, -1)])
        self.assertIs(type(trail(table, 2)), list)

    def test_a_trail_against_the_layout(self):
        table = Table([(number * 2654435761, 0) for number in range(300)])
        for number in range(0, 300, 3):
            table.drop(number * 2654435761)
        size, slots, _, _ = table.layout()
        for code in range(0, 2 ** 32, 2 ** 22 + 77):
            row = [(slot, slots[slot]) for slot in first_slots(code, size, size + 6)]
            end = [content for _, content in row].index(-1)
            self.assertEqual(trail(table, code), row[:end + 1])
            self.assertEqual(place_for(table, code), [slot for slot, content in row if content < 0][0])

    def test_each_slot_as_often_as_the_path_has_it(self):
        table = Table([(7, "a"), (3, "b")])
        slots = [7, 3, 7, 3, 7, 3, 3, 0]
        row = [(slot, {7: 0, 3: 1, 0: -1}[slot]) for slot in slots]
        self.assertEqual(trail(table, 4294967295), row)
        self.assertEqual(seek(table, 4294967295, 4294967295), (0, -1, 8))

    def test_place_for(self):
        table = holed()
        self.assertEqual([place_for(table, code) for code in (0, 1, 2, 3, 6)], [0, 7, 2, 3, 7])
        self.assertEqual(place_for(code=4, table=table), 4)

    def test_no_codes(self):
        table = holed()
        for bad in NO_CODES:
            self.unchanged(table, BadCode, trail, table, bad)
            self.unchanged(table, BadCode, place_for, table, bad)


class Seeking(Case):
    def test_what_is_there(self):
        table = Table([(0, "a"), (8, "b"), (16, "c"), (3, "d")])
        self.assertEqual([seek(table, key, key) for key in (0, 8, 16, 3)], [(0, 0, 1), (1, 1, 2), (6, 2, 3), (3, 3, 1)])
        self.assertEqual(seek(code=16, key=16, table=table), (6, 2, 3))
        self.assertIs(type(seek(table, 0, 0)), tuple)

    def test_what_is_not_there(self):
        table = Table([(0, "a"), (8, "b"), (16, "c"), (3, "d")])
        self.assertEqual([seek(table, key, key) for key in (24, 1, 2)], [(7, -1, 4), (7, -1, 3), (2, -1, 1)])
        self.assertEqual(seek(Table(), 5, 5), (5, -1, 1))

    def test_with_holes(self):
        table = holed()
        self.assertEqual([seek(table, key, key) for key in (8, 16)], [(1, 1, 2), (6, 3, 3)])
        results = [seek(table, key, key) for key in (0, 24, 3, 6)]
        self.assertEqual(results, [(0, -1, 4), (0, -1, 4), (3, -1, 5), (7, -1, 2)])

    def test_the_code_need_not_be_that_of_the_key(self):
        table = holed()
        self.assertEqual(seek(table, 8, 0), (1, 1, 2))
        self.assertEqual(seek(table, 8, 3), (1, 1, 3))
        self.assertEqual(seek(table, 8, 2), (2, -1, 1))
        self.assertEqual(seek(table, "a", 8), (0, -1, 4))

    def test_the_own_code_is_not_asked(self):
        trace = Trace()
        key = TracedFailingKey("k", 5, trace, 1)
        self.assertEqual(seek(Table([(8, 0)]), key, 8), (1, -1, 2))
        self.assertEqual(trace.events(), [("matches", "k", 8)])

    def test_seek_key(self):
        trace = Trace()
        table = holed()
        results = [seek_key(table, key) for key in (8, 16, 0, 2)]
        self.assertEqual(results, [(1, 1, 2), (6, 3, 3), (0, -1, 4), (2, -1, 1)])
        self.assertEqual(seek_key(key=TracedKey("k", 16, trace), table=table), (0, -1, 4))
        self.assertEqual(trace.events(), [("code", "k"), ("matches", "k", 16)])
        self.assertEqual(seek_key(table, "a"), seek(table, "a", 658))

    def test_nothing_is_changed(self):
        table = holed()
        before = look(table)
        for key in (8, 0, 3, Key("k", 16)):
            seek_key(table, key)
        self.assertEqual(look(table), before)

    def test_tables_of_a_class_below(self):
        table = Small([(1, "a"), (9, "b")])
        self.assertEqual((seek(table, 9, 9), seek_key(table, 9)), ((6, 1, 2), (6, 1, 2)))
        self.assertEqual((trail(table, 9)[2], place_for(table, 17), asked_at(table, Key("k", 1), 9)), ((7, -1), 7, [1]))


class Refused(Case):
    def test_no_keys(self):
        table = holed()
        for thing in NO_KEYS:
            for code in (0, -1, None):
                self.unchanged(table, BadKey, seek, table, thing, code)
                self.unchanged(table, BadKey, asked_at, table, thing, code)
            self.unchanged(table, BadKey, seek_key, table, thing)

    def test_no_codes(self):
        table, trace = holed(), Trace()
        for bad in NO_CODES:
            for key in (8, TracedKey("k", 8, trace)):
                self.unchanged(table, BadCode, seek, table, key, bad)
                self.unchanged(table, BadCode, asked_at, table, key, bad)
        self.assertEqual(trace.events(), [])

    def test_what_a_key_raises(self):
        table = Table([(8, "a")])
        self.assertEqual(self.unchanged(table, CodeFault, seek_key, table, FailingKey("f", 8, 1)), "f")
        self.assertEqual(self.unchanged(table, MatchFault, seek_key, table, FailingKey("f", 8, 0, 1)), "f")
        self.assertEqual(self.unchanged(table, MatchFault, seek, table, FailingKey("f", 3, 1, 1), 8), "f")
        key = Key("k", 5)
        key.code = lambda: 2 ** 32
        self.unchanged(table, BadCode, seek_key, table, key)

    def test_unsettled(self):
        for call in (lambda table: seek(table, 0, 0), lambda table: seek_key(table, 0)):
            self.assertEqual(self.refused(Unsettled, call, meddled(17)), 16)
            self.assertEqual(call(meddled(16))[1], -1)


class QuietQuestions(Case):
    def crowd(self):
        """Entries 0 to 4, all on the path of 0: an object, 0, 8, another object, and 2 ** 32."""
        other = LopsidedKey("l", 0, (False,))
        table = Table([(LopsidedKey("k", 0, (False,)), 0), (0, 1), (8, 2), (other, 3), (2 ** 32, 4)])
        self.assertEqual(table.live, 5)
        return table, other

    def test_plain_keys_are_asked_about_objects_alone(self):
        table, _ = self.crowd()
        self.assertEqual(asked_at(table, -(2 ** 32), 0), [0, 3])
        self.assertEqual(asked_at(table, 2 ** 32, 0), [0, 3])
        self.assertEqual(asked_at(code=8, key=16, table=table), [])

    def test_objects_are_asked_about_every_entry_with_the_code(self):
        table, _ = self.crowd()
        self.assertEqual(asked_at(table, Key("k", 5), 0), [0, 1, 3, 4])
        self.assertEqual(asked_at(table, Key("x", 0), 8), [2])
        self.assertEqual(asked_at(table, Key("x", 0), 1), [])

    def test_they_end_before_an_identical_key(self):
        table, other = self.crowd()
        self.assertEqual(asked_at(table, other, 0), [0, 1])
        self.assertEqual(asked_at(table, 0, 0), [0])
        self.assertEqual(asked_at(table, 8, 0), [0])
        self.assertEqual(asked_at(table, table.entry_at(0)[0], 0), [])

    def test_answers_do_not_count(self):
        table = Table([(Key("a", 0), 1), (0, 2)])
        self.assertEqual(asked_at(table, Key("a", 0), 0), [0, 1])

    def test_holes_are_no_questions(self):
        table, _ = self.crowd()
        table.remove_at(1)
        table.remove_at(3)
        self.assertEqual(asked_at(table, Key("x", 0), 0), [0, 4])

    def test_two_plain_keys(self):
        table = Table([(0, 1), (2 ** 32, 2)])
        self.assertEqual(asked_at(table, -(2 ** 32), 0), [])

    def test_nothing_is_asked_and_nothing_changes(self):
        trace = Trace()
        stored, given = [TracedFailingKey(label, 0, trace, 2, 1) for label in "ab"]
        table = Table([(stored, 1)])
        before, noted = look(table), trace.events()
        self.assertEqual([asked_at(table, key, 0) for key in (stored, given, 0, 5)], [[], [0], [0], [0]])
        trail(table, 0)
        place_for(table, 0)
        self.assertEqual((look(table), trace.events()), (before, noted))

    def test_each_list_is_new(self):
        table, _ = self.crowd()
        asked_at(table, 5, 0).append(9)
        self.assertEqual(asked_at(table, 5, 0), [0, 3])

    def test_a_lookup_asks_them_if_no_two_keys_match(self):
        trace = Trace()
        pairs = [(TracedKey(label, 0, trace), 0) for label in "abc"] + [(2 ** 32, 0), (8, 0)]
        table = Table(pairs)
        table.put(TracedKey("d", 0, trace), 0)
        table.remove_at(1)
        for key in [0, 2 ** 32, TracedKey("x", 5, trace), pairs[0][0], pairs[2][0]]:
            before = len(trace.events())
            seek(table, key, 0)
            stored = [table.entry_at(index)[0] for index in asked_at(table, key, 0)]
            asked = [getattr(one, "label", "x") for one in stored]
            self.assertEqual([event[1] for event in trace.events()[before:]], asked)
