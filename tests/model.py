"""A table written a second time, from the document, for keys that are plain or of the class Key itself."""

from entryhall.codes import code_of
from entryhall.unruly import Key

CAPACITIES = {8: 5, 16: 10, 32: 21, 64: 42, 128: 85, 256: 170, 512: 341, 1024: 682, 2048: 1365, 4096: 2730}


def own_code(key):
    return key.code() if isinstance(key, Key) else code_of(key)


def are_equal(stored, given):
    """Whether a lookup takes two well-behaved keys with equal codes for the same."""
    if isinstance(stored, Key) and isinstance(given, Key):
        return stored is given or stored.label == given.label
    return not isinstance(stored, Key) and not isinstance(given, Key) and stored == given


class Model:
    def __init__(self):
        self.slots = [-1] * 8
        self.entries = []
        self.mark = self.changes = 0

    def size(self):
        return len(self.slots)

    def living(self):
        return [entry for entry in self.entries if entry is not None]

    def walk(self, code):
        slot, push = code % self.size(), code
        while True:
            yield slot
            push //= 32
            slot = (5 * slot + push + 1) % self.size()

    def find(self, key, code):
        """The result of the lookup: (slot, index, looked)."""
        place = None
        for looked, slot in enumerate(self.walk(code), 1):
            index = self.slots[slot]
            if index == -1:
                return (slot if place is None else place), -1, looked
            if index == -2:
                place = slot if place is None else place
            elif self.entries[index][1] == code and are_equal(self.entries[index][0], key):
                return slot, index, looked

    def put(self, key, value, code=None):
        code = own_code(key) if code is None else code
        slot, index, _ = self.find(key, code)
        if index >= 0:
            self.entries[index] = (self.entries[index][0], code, value)
            return
        if len(self.entries) == CAPACITIES[self.size()]:
            self.rebuild(min(size for size in CAPACITIES if size >= 3 * len(self.living())))
            slot = self.find(key, code)[0]
        self.slots[slot] = len(self.entries)
        self.entries.append((key, code, value))
        self.mark += 1
        self.changes += 1

    def remove(self, index):
        self.slots[self.slots.index(index)] = -2
        self.entries[index] = None
        self.mark += 1
        self.changes += 1

    def rebuild(self, size):
        self.slots, self.entries = [-1] * size, self.living()
        for index, entry in enumerate(self.entries):
            for slot in self.walk(entry[1]):
                if self.slots[slot] == -1:
                    self.slots[slot] = index
                    break
        self.mark += 1

    def compact(self):
        if None in self.entries:
            self.rebuild(self.size())

    def shrink(self):
        size = min(size for size in CAPACITIES if CAPACITIES[size] >= len(self.living()))
        if size < self.size():
            self.rebuild(size)

    def reserve(self, many):
        if CAPACITIES[self.size()] - len(self.entries) < many - len(self.living()):
            self.rebuild(min(size for size in CAPACITIES if CAPACITIES[size] >= many))

    def clear(self):
        if self.entries or self.size() > 8:
            self.changes += bool(self.living())
            self.slots, self.entries = [-1] * 8, []
            self.mark += 1

    def look(self):
        """What helpers.look tells of a table that is not held."""
        room = CAPACITIES[self.size()] - len(self.entries)
        return (
            (self.size(), tuple(self.slots), tuple(self.entries), self.mark),
            [(key, value) for key, _, value in self.living()],
            (len(self.living()), len(self.entries), self.size(), CAPACITIES[self.size()], room),
            (self.mark, self.changes, False),
        )
