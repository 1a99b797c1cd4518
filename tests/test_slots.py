"""Points 2 and 10 to 13, and the interface, "entryhall/slots.py"."""

import unittest

from entryhall import slots as module
from entryhall.errors import BadCode, BadSize, NoEntry, TooLarge
from entryhall.slots import EMPTY, HOLE, MAX_SIZE, MIN_SIZE, SlotTable
from entryhall.slots import capacity, first_slots, growth, is_size, path, size_for
from tests.helpers import NO_INTEGERS, Case
from tests.test_codes import NO_KEYS

SIZES = [8, 16, 32, 64, 128, 256, 512, 1024, 2048, 4096]
NO_SIZES = NO_INTEGERS + [0, 1, 2, 4, 7, 9, 15, 17, 24, 4095, 4097, 8192, -1, -8, -4096, 2 ** 64, 10 ** 400]
NO_CODES = NO_INTEGERS + [-1, 4294967296, -(2 ** 64), 10 ** 400]
NO_COUNTS = NO_INTEGERS + [-1, -(10 ** 400)]
CODES = [0, 1, 7, 8, 9, 31, 32, 255, 256, 4095, 4096, 8192, 21812, 2 ** 31, 4294967288, 4294967295]


def worked_path(code, size, many):
    """The path as point 11 tells it, by a formula for the pushes."""
    row = [code % size]
    for step in range(1, many):
        row.append((5 * row[-1] + code // 32 ** step + 1) % size)
    return row[:many]


class Sizes(Case):
    def test_the_constants(self):
        self.assertEqual((EMPTY, HOLE, MIN_SIZE, MAX_SIZE), (-1, -2, 8, 4096))

    def test_all_sizes_and_their_neighbours(self):
        for number in range(-10, 5000):
            self.assertIs(is_size(number), number in SIZES, number)

    def test_no_sizes(self):
        for thing in NO_SIZES + NO_KEYS:
            self.assertIs(is_size(thing), False, repr(thing))
        self.assertIs(is_size(thing=8), True)

    def test_capacity(self):
        self.assertEqual([capacity(size) for size in SIZES], [5, 10, 21, 42, 85, 170, 341, 682, 1365, 2730])
        self.assertEqual(capacity(size=8), 5)
        for thing in NO_SIZES:
            self.refused(BadSize, capacity, thing)

    def test_size_for(self):
        for many in range(0, 2731):
            size = size_for(many)
            self.assertIn(size, SIZES)
            self.assertLessEqual(many, capacity(size))
            self.assertTrue(size == 8 or capacity(size // 2) < many, many)
        for many, size in [(0, 8), (5, 8), (6, 16), (10, 16), (11, 32), (600, 1024), (1365, 2048), (1366, 4096)]:
            self.assertEqual(size_for(many=many), size)
        self.assertEqual(size_for(2730), 4096)

    def test_size_for_beyond_its_bounds(self):
        for thing in NO_INTEGERS + [-1, 2731, 4096, 10 ** 400, -(10 ** 400)]:
            self.refused(BadSize, size_for, thing)

    def test_growth(self):
        for live in range(0, 1366):
            size = growth(live)
            self.assertIn(size, SIZES)
            self.assertLessEqual(3 * live, size)
            self.assertTrue(size == 8 or size // 2 < 3 * live, live)
        for live, size in [(0, 8), (2, 8), (3, 16), (5, 16), (6, 32), (600, 2048), (682, 2048), (683, 4096)]:
            self.assertEqual(growth(live=live), size)
        self.assertEqual(growth(1365), 4096)

    def test_growth_beyond_its_bounds(self):
        for thing in NO_INTEGERS + [-1, 1366, 4096, 10 ** 400, -(10 ** 400)]:
            self.refused(BadSize, growth, thing)


class Paths(Case):
    def test_the_example_of_the_document(self):
        self.assertEqual(first_slots(8, 8, 4), [0, 1, 6, 7])

    def test_worked_out_paths(self):
        self.assertEqual(first_slots(0, 8, 9), [0, 1, 6, 7, 4, 5, 2, 3, 0])
        # The pushes of 4294967295 are 134217727, 4194303, 131071, 4095, 127, 3, 0.
        self.assertEqual(first_slots(4294967295, 8, 8), [7, 3, 7, 3, 7, 3, 3, 0])
        # The pushes of 1000 are 31, 0.
        self.assertEqual(first_slots(1000, 16, 5), [8, 8, 9, 14, 7])

    def test_many_paths(self):
        for size in SIZES:
            for code in CODES:
                for many in (0, 1, 2, 7, size, size + 6, size + 8):
                    self.assertEqual(first_slots(code, size, many), worked_path(code, size, many))

    def test_the_first_size_and_six_slots_contain_every_slot(self):
        for size in SIZES:
            for code in CODES:
                row = first_slots(code, size, 2 * size + 6)
                self.assertEqual(sorted(row[6:size + 6]), list(range(size)))
                self.assertEqual(row[6:size + 6], row[size + 6:])

    def test_codes_that_are_equal_modulo_a_number_begin_with_the_same_slots(self):
        for size in (8, 64):
            for power in range(0, 5):
                other = 777 + size * 32 ** power
                self.assertEqual(first_slots(777, size, power + 1), first_slots(other, size, power + 1))

    def test_the_path_in_half_the_size(self):
        for size in SIZES[1:]:
            for code in CODES:
                half = [slot % (size // 2) for slot in first_slots(code, size, 40)]
                self.assertEqual(first_slots(code, size // 2, 40), half)

    def test_path_gives_the_same_slots_one_by_one(self):
        self.assertEqual(list(path(21812, 64, 70)), first_slots(21812, 64, 70))
        walk = path(code=8, size=8, many=10 ** 100)
        self.assertEqual([next(walk) for _ in range(4)], [0, 1, 6, 7])
        self.assertEqual(list(path(5, 8, 0)), [])
        self.assertEqual(first_slots(many=1, size=8, code=5), [5])

    def test_each_list_is_new(self):
        row = first_slots(8, 8, 4)
        row.append(9)
        self.assertEqual(first_slots(8, 8, 4), [0, 1, 6, 7])

    def test_wrong_arguments(self):
        for bad in NO_CODES:
            self.refused(BadCode, first_slots, bad, 8, 4)
        for bad in NO_SIZES:
            self.refused(BadSize, first_slots, 1, bad, 4)
        for bad in NO_COUNTS:
            self.refused(BadSize, first_slots, 1, 8, bad)

    def test_the_first_wrong_argument_counts(self):
        for code, size, many in [(-1, 7, -1), (True, None, 4), ("a", 8, -1)]:
            self.refused(BadCode, first_slots, code, size, many)
        self.refused(BadSize, first_slots, 0, 7, "many")

    def test_path_raises_when_it_is_iterated_and_not_before(self):
        for error, given in [(BadCode, (-1, 7, -1)), (BadSize, (0, 7, -1)), (BadSize, (0, 8, -1))]:
            walk = path(*given)
            self.refused(error, next, walk)


def filled_table():
    """The slots of the document's example: (3, 1, -1, 2, -1, -1, -1, -1)."""
    table = SlotTable(8)
    for code, index in [(8, 0), (0, 1)]:
        table.place(code, index)
    table.erase(0)
    table.place(3, 2)
    table.place(16, 3)
    return table


class SlotTables(Case):
    def kept(self, table, error, call, *given):
        before = table.as_tuple()
        told = self.refused(error, call, *given)
        self.assertEqual(table.as_tuple(), before)
        return told

    def test_a_new_one_is_empty(self):
        for size in SIZES:
            table = SlotTable(size)
            self.assertEqual((table.size, table.as_tuple()), (size, (-1,) * size))
        self.assertEqual(SlotTable(size=16).size, 16)

    def test_no_sizes(self):
        for bad in NO_SIZES:
            self.refused(BadSize, SlotTable, bad)

    def test_the_size_cannot_be_set(self):
        with self.assertRaises(AttributeError):
            SlotTable(8).size = 16

    def test_the_example_of_the_document(self):
        slots = SlotTable(8)
        calls = [slots.place(8, 0), slots.place(0, 1), slots.erase(0), slots.place(3, 2), slots.place(16, 3)]
        self.assertEqual(calls, [0, 1, 0, 3, 0])
        self.assertEqual(slots.as_tuple(), (3, 1, -1, 2, -1, -1, -1, -1))

    def test_codes_that_share_slots_until_no_slot_is_free(self):
        table = SlotTable(8)
        self.assertEqual([table.place(0, index) for index in range(8)], [0, 1, 6, 7, 4, 5, 2, 3])
        self.assertEqual(table.as_tuple(), (0, 1, 6, 7, 4, 5, 2, 3))
        for code in CODES:
            self.assertEqual(self.kept(table, TooLarge, table.place, code, 8), 8)
        self.assertEqual(table.erase(4), 4)
        self.assertEqual(table.place(code=4294967295, index=10 ** 30), 4)
        self.assertEqual(table.value_at(4), 10 ** 30)

    def test_a_full_table_of_each_size(self):
        for size in SIZES[:6]:
            table = SlotTable(size)
            rows = [table.place(index * size * 32, index) for index in range(size)]
            self.assertEqual(sorted(rows), list(range(size)))
            self.assertEqual(self.kept(table, TooLarge, table.place, 5, 0), size)

    def test_the_first_hole_is_taken_before_an_empty_slot(self):
        table = SlotTable(8)
        for index in range(4):
            table.place(0, index)
        self.assertEqual([table.erase(slot) for slot in (6, 1)], [2, 1])
        self.assertEqual(table.as_tuple(), (0, -2, -1, -1, -1, -1, -2, 3))
        self.assertEqual([table.place(0, index) for index in (4, 5, 6)], [1, 6, 4])

    def test_value_at(self):
        table = filled_table()
        self.assertEqual([table.value_at(slot) for slot in range(8)], [3, 1, -1, 2, -1, -1, -1, -1])
        self.assertEqual(table.value_at(slot=0), 3)
        for bad in NO_INTEGERS + [-1, 8, -8, 10 ** 400]:
            self.assertIs(self.refused(NoEntry, table.value_at, bad), bad)
        self.assertEqual(SlotTable(16).value_at(8), -1)

    def test_count_of(self):
        table = filled_table()
        table.erase(3)
        self.assertEqual(table.as_tuple(), (3, 1, -1, -2, -1, -1, -1, -1))
        self.assertEqual([table.count_of(value) for value in (-2, -1, 0, 1, 2, 3)], [1, 5, 0, 1, 0, 1])
        self.assertEqual(table.count_of(value=10 ** 400), 0)
        table.place(5, 1)
        self.assertEqual(table.count_of(1), 2)
        for bad in NO_INTEGERS + [-3, -4, -(10 ** 400)]:
            self.assertIs(self.refused(NoEntry, table.count_of, bad), bad)

    def test_place_refuses_the_first_wrong_argument(self):
        table = filled_table()
        for bad in NO_CODES:
            self.kept(table, BadCode, table.place, bad, -1)
        for bad in NO_COUNTS:
            self.assertIs(self.kept(table, NoEntry, table.place, 0, bad), bad)
        for index in range(10, 15):
            table.place(0, index)
        self.assertEqual(table.count_of(EMPTY) + table.count_of(HOLE), 0)
        self.kept(table, BadCode, table.place, -1, 0)
        self.assertEqual(self.kept(table, NoEntry, table.place, 0, -1), -1)

    def test_erase(self):
        table = filled_table()
        self.assertEqual([table.erase(slot=3), table.erase(0)], [2, 3])
        self.assertEqual(table.as_tuple(), (-2, 1, -1, -2, -1, -1, -1, -1))
        for bad in NO_INTEGERS + [-1, 8, 0, 3, 2, 7]:
            self.assertIs(self.kept(table, NoEntry, table.erase, bad), bad)

    def test_trail(self):
        table = filled_table()
        self.assertEqual([table.trail(code) for code in (0, 3, 2, 16)], [[0, 1, 6], [3, 0, 1, 6], [2], [0, 1, 6]])
        self.assertEqual(table.trail(code=7), [7])
        table.erase(0)
        table.erase(1)
        self.assertEqual(table.trail(0), [0, 1, 6])
        for bad in NO_CODES:
            self.refused(BadCode, table.trail, bad)

    def test_each_trail_is_new(self):
        table = filled_table()
        table.trail(0).append(5)
        self.assertEqual(table.trail(0), [0, 1, 6])

    def test_a_trail_that_runs_over_a_slot_several_times(self):
        table = SlotTable(8)
        self.assertEqual([table.place(code, index) for index, code in enumerate([7, 3])], [7, 3])
        self.assertEqual(table.trail(4294967295), [7, 3, 7, 3, 7, 3, 3, 0])
        self.assertEqual(table.place(4294967295, 2), 0)
        self.assertEqual(table.trail(4294967295), [7, 3, 7, 3, 7, 3, 3, 0, 1])
        self.assertEqual([table.slot_of(4294967295, index) for index in range(4)], [7, 3, 0, None])

    def test_the_trail_of_a_full_table(self):
        table = SlotTable(8)
        for index in range(8):
            table.place(0, index)
        table.erase(5)
        for code in CODES:
            self.assertEqual(table.trail(code), worked_path(code, 8, 14))

    def test_a_placed_index_stays_on_its_trail_until_it_is_erased(self):
        table = SlotTable(64)
        placed = {}
        for index in range(60):
            code = index % 5 * 2 ** 25 + 64 * index
            placed[table.place(code, index)] = (code, index)
            if index % 3 == 2:
                slot = sorted(placed)[index % len(placed)]
                self.assertEqual(table.erase(slot), placed.pop(slot)[1])
            for slot, (own_code, own_index) in placed.items():
                self.assertEqual(table.slot_of(own_code, own_index), slot)
                self.assertIn(slot, table.trail(own_code))

    def test_slot_of(self):
        table = filled_table()
        self.assertEqual([table.slot_of(0, 3), table.slot_of(0, 1), table.slot_of(code=3, index=2)], [0, 1, 3])
        self.assertIsNone(table.slot_of(0, 2))
        self.assertIsNone(table.slot_of(2, 3))
        self.assertIsNone(table.slot_of(0, 10 ** 400))
        table.place(0, 3)
        self.assertEqual((table.slot_of(0, 3), table.slot_of(6, 3)), (0, 6))
        for bad in NO_CODES:
            self.refused(BadCode, table.slot_of, bad, -1)
        for bad in NO_COUNTS + [-2]:
            self.assertIs(self.refused(NoEntry, table.slot_of, 0, bad), bad)

    def test_a_twin_goes_on_by_itself(self):
        table = filled_table()
        twin = table.twin()
        self.assertIs(type(twin), SlotTable)
        self.assertEqual((twin.size, twin.as_tuple()), (8, table.as_tuple()))
        twin.erase(0)
        table.place(0, 9)
        self.assertEqual(twin.as_tuple(), (-2, 1, -1, 2, -1, -1, -1, -1))
        self.assertEqual(table.as_tuple(), (3, 1, -1, 2, -1, -1, 9, -1))
        table.refill(16, [])
        self.assertEqual(twin.size, 8)


class Refill(Case):
    def test_codes_are_placed_in_order(self):
        table = filled_table()
        table.erase(0)
        self.assertEqual(table.refill(8, [0, 8, 3, 16, 11]), [0, 1, 3, 6, 7])
        self.assertEqual(table.as_tuple(), (0, 1, -1, 2, -1, -1, 3, 4))

    def test_other_sizes(self):
        table = filled_table()
        self.assertEqual(table.refill(size=32, codes=(0, 32, 64)), [0, 2, 3])
        self.assertEqual((table.size, table.count_of(EMPTY)), (32, 29))
        self.assertEqual([table.value_at(slot) for slot in (0, 2, 3)], [0, 1, 2])
        self.assertEqual(table.refill(8, ()), [])
        self.assertEqual(table.as_tuple(), (-1,) * 8)

    def test_as_many_codes_as_the_capacity(self):
        for size in SIZES:
            table = SlotTable(8)
            many = capacity(size)
            codes = [(number * 2654435761) % 2 ** 32 for number in range(many)]
            rows = table.refill(size, codes)
            self.assertEqual([table.value_at(slot) for slot in rows], list(range(many)))
            self.assertEqual(table.count_of(EMPTY), size - many)

    def test_one_code_more(self):
        for size in SIZES:
            table = filled_table()
            self.assertEqual(self.kept(table, TooLarge, size, [0] * (capacity(size) + 1)), size)

    def kept(self, table, error, size, codes):
        before = table.as_tuple()
        told = self.refused(error, table.refill, size, codes)
        self.assertEqual((table.size, table.as_tuple()), (len(before), before))
        return told

    def test_a_wrong_size_comes_first(self):
        table = filled_table()
        for bad in NO_SIZES:
            for codes in ([], [-1], None, [0] * 5000):
                self.kept(table, BadSize, bad, codes)

    def test_wrong_codes_come_before_too_many(self):
        table = filled_table()
        for bad in NO_CODES:
            for codes in ([bad], [0, 1, bad, 2], [0] * 5 + [bad], (bad,)):
                self.kept(table, BadCode, 8, codes)

    def test_no_list_or_tuple(self):
        table = filled_table()
        for codes in (None, 5, "", "ab", b"ab", {}, {0: 1}, {0}, range(3), iter([0]), table, True):
            self.kept(table, BadCode, 8, codes)

    def test_the_codes_are_not_kept(self):
        table, codes = SlotTable(8), [1, 2]
        rows = table.refill(8, codes)
        codes.append(3)
        rows.append(3)
        self.assertEqual(table.as_tuple(), (-1, 0, 1, -1, -1, -1, -1, -1))
        self.assertEqual(codes, [1, 2, 3])


class Names(unittest.TestCase):
    def test_the_constants_are_integers(self):
        for name in ("EMPTY", "HOLE", "MIN_SIZE", "MAX_SIZE"):
            self.assertIs(type(getattr(module, name)), int)


if __name__ == "__main__":
    unittest.main()
