"""Points 20 to 24, 30, 31, 33 and 82: long histories of calls, held against a model and a plain list of pairs."""

from entryhall.errors import Empty, Missing, TooLarge
from entryhall.seeking import asked_at, place_for, seek, seek_key, trail
from entryhall.table import Table
from entryhall.unruly import Key
from tests.helpers import Case, look
from tests.model import Model, are_equal, own_code

PLAIN = [0, 8, 16, 64, 2 ** 32, -8, None, "a", "b", "", (), (1,), (1, 2), ("a", (None,)), 256, 2 ** 20, 2 ** 25]
SPREAD = list(range(40)) + [number * 2654435761 for number in range(1, 40)]
CROWDED = [number * 2 ** 12 for number in range(12)] + [4294967295, 134217727, 7, 3, 2 ** 32 + 7]


def objects():
    """Key objects of which many have equal codes, and some equal labels."""
    return [Key(label, code) for code in (0, 8, 561) for label in ("a", "b", "a")]


class Numbers:
    """An endless row of numbers, always the same."""

    def __init__(self, start):
        self.state = start

    def below(self, many):
        self.state = (self.state * 6364136223846793005 + 1442695040888963407) % 2 ** 64
        return (self.state >> 33) % many


class History:
    """A table, the model, and a plain list of pairs, to which the same is done."""

    def __init__(self, case, keys, start):
        self.case, self.keys, self.numbers = case, keys, Numbers(start)
        self.table, self.model, self.pairs = Table(), Model(), []

    def check(self):
        self.case.assertEqual(look(self.table), self.model.look())
        self.case.assertEqual(list(self.table.each_pair()), self.pairs)

    def at(self, key):
        """The index of a key in the plain list, or None."""
        for index, (stored, _) in enumerate(self.pairs):
            if own_code(stored) == own_code(key) and are_equal(stored, key):
                return index
        return None

    def put_plainly(self, key, value):
        at = self.at(key)
        if at is None:
            self.pairs.append((key, value))
        else:
            self.pairs[at] = (self.pairs[at][0], value)
        self.model.put(key, value)

    def drop_plainly(self, key):
        self.model.remove(self.model.find(key, own_code(key))[1])
        return self.pairs.pop(self.at(key))[1]

    def step(self, number):
        key = self.keys[self.numbers.below(len(self.keys))]
        found = self.at(key) is not None
        kind = self.numbers.below(100)
        if kind < 45:
            self.case.assertIsNone(self.table.put(key, number))
            self.put_plainly(key, number)
        elif kind < 55:
            given = self.table.set_default(key, number)
            if not found:
                self.put_plainly(key, number)
            self.case.assertEqual(given, self.pairs[self.at(key)][1])
        elif kind < 75:
            self.remove(kind, key, found)
        elif kind < 90:
            self.read(key, found)
        else:
            self.change_size(kind)

    def remove(self, kind, key, found):
        if kind < 62 and not found:
            self.case.assertIs(self.case.unchanged(self.table, Missing, self.table.drop, key), key)
        elif kind < 62:
            self.case.assertIsNone(self.table.drop(key))
            self.drop_plainly(key)
        elif kind < 70:
            given = self.table.take(key, "none")
            self.case.assertEqual(given, self.drop_plainly(key) if found else "none")
        elif self.pairs:
            last = self.pairs[-1]
            self.case.assertEqual(self.table.pop_last(), last)
            self.drop_plainly(last[0])
        else:
            self.case.unchanged(self.table, Empty, self.table.pop_last)

    def read(self, key, found):
        table, case, result = self.table, self.case, self.model.find(key, own_code(key))
        value = self.pairs[self.at(key)][1] if found else "none"
        case.assertEqual((table.get(key, "none"), table.has(key)), (value, found))
        if found:
            case.assertEqual(table.fetch(key), value)
        else:
            case.assertIs(case.unchanged(table, Missing, table.fetch, key), key)
        case.assertEqual((seek(table, key, own_code(key)), seek_key(table, key)), (result, result))
        case.assertEqual(table.probe_count(key), result[2])
        self.read_trail(key)

    def read_trail(self, key):
        row = []
        for slot in self.model.walk(own_code(key)):
            row.append((slot, self.model.slots[slot]))
            if row[-1][1] == -1:
                break
        self.case.assertEqual(trail(self.table, own_code(key)), row)
        self.case.assertEqual(place_for(self.table, own_code(key)), [slot for slot, held in row if held < 0][0])
        asked = []
        for _, index in row:
            entry = self.model.entries[index] if index >= 0 else None
            if entry and entry[0] == key:
                break
            if entry and entry[1] == own_code(key) and Key in (type(entry[0]), type(key)):
                asked.append(index)
        self.case.assertEqual(asked_at(self.table, key, own_code(key)), asked)

    def change_size(self, kind):
        many = self.numbers.below(60)
        if kind < 93:
            self.case.assertIsNone(self.table.compact())
            self.model.compact()
        elif kind < 95:
            self.case.assertIsNone(self.table.shrink())
            self.model.shrink()
        elif kind < 98:
            self.case.assertIsNone(self.table.reserve(many))
            self.model.reserve(many)
        elif many < 20:
            self.case.assertIsNone(self.table.clear())
            self.model.clear()
            self.pairs = []
        else:
            self.take_copy()

    def take_copy(self):
        copy = self.table.copy()
        self.case.assertTrue(copy.same_pairs(self.table) and self.table.same_pairs(copy))
        self.model.rebuild(self.model.size())
        self.model.mark = self.model.changes = 0
        self.table = copy


class Histories(Case):
    def run_history(self, keys, start, steps):
        history = History(self, keys, start)
        for number in range(steps):
            history.step(number)
            history.check()

    def test_few_plain_keys(self):
        for start in range(6):
            self.run_history(PLAIN, start, 300)

    def test_plain_keys_that_share_slots(self):
        for start in range(6):
            self.run_history(CROWDED, start, 300)

    def test_key_objects_and_plain_keys_with_equal_codes(self):
        for start in range(8):
            self.run_history(objects() + [0, 8, "a", "b", 561], start, 300)

    def test_many_keys(self):
        for start in range(3):
            self.run_history(SPREAD + PLAIN + objects(), start, 600)

    def test_growing_to_600_entries_and_back(self):
        history = History(self, [], 0)
        for number in range(600):
            history.table.put(number * 37, number)
            history.put_plainly(number * 37, number)
            if number % 50 in (0, 49):
                history.check()
        history.check()
        table = history.table
        self.assertEqual((table.live, table.filled), (600, 600))
        self.assertEqual(self.unchanged(table, TooLarge, table.put, -1, 0), 600)
        self.assertEqual(self.unchanged(table, TooLarge, table.set_default, -1, 0), 600)
        table.put(37, "new")
        history.put_plainly(37, "new")
        history.check()
        for number in range(0, 600, 2):
            table.drop(number * 37)
            history.drop_plainly(number * 37)
        history.check()
        for call in ("compact", "shrink"):
            getattr(table, call)()
            getattr(history.model, call)()
            history.check()
        self.assertEqual(table.size, 512)
