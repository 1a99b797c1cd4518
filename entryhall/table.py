"""The table: entries in the order in which they were added, and the slots that lead to them."""

from entryhall.codes import code_of, is_between
from entryhall.errors import BadPairs, BadSize, Empty, Locked, Missing, NoEntry, NotHeld, TooLarge
from entryhall.seeking import seek, seek_key
from entryhall.slots import SlotTable, capacity, growth, size_for
from entryhall.unruly import asked_code


def _is_pairs(thing):
    if not isinstance(thing, (list, tuple)):
        return False
    return all([isinstance(pair, tuple) and len(pair) == 2 for pair in thing])


class Table:
    """A dictionary that keeps the order of its entries and shows its inside."""

    MIN_SIZE = 8
    MAX_LIVE = 600
    MAX_RESTARTS = 16

    def __init__(self, pairs=()):
        self._slots = SlotTable(self.MIN_SIZE)
        # An entry is a tuple (key, code, value); a hole is None.
        self._entries = []
        self._live = 0
        self._mark = 0
        self._changes = 0
        self._holds = 0
        self.merge(pairs)

    @classmethod
    def of(cls, *pairs):
        """Return a new table with these pairs."""
        return cls(pairs)

    @classmethod
    def from_keys(cls, keys, value=None):
        """Return a new table in which each of the keys has the value."""
        if not isinstance(keys, (list, tuple)):
            raise BadPairs(0)
        return cls([(key, value) for key in keys])

    @staticmethod
    def plain_code(key):
        """Return the code of a plain key."""
        return code_of(key)

    @property
    def live(self):
        """The number of entries that are not holes."""
        return self._live

    @property
    def filled(self):
        """The number of entries with the holes."""
        return len(self._entries)

    @property
    def size(self):
        """The number of slots."""
        return self._slots.size

    @property
    def capacity(self):
        """How many entries, holes among them, the slots have room for."""
        return capacity(self.size)

    @property
    def room(self):
        """How many entries can still be added without a rebuild."""
        return self.capacity - self.filled

    @property
    def mark(self):
        """How often an entry was added or removed, or the table rebuilt or cleared."""
        return self._mark

    @property
    def changes(self):
        """How often an entry was added or removed, or live entries were cleared away."""
        return self._changes

    @property
    def is_held(self):
        """Whether the table is held."""
        return self._holds > 0

    def entry_at(self, index):
        """Return the entry with this index, (key, code, value), or None for a hole."""
        if not is_between(index, 0, self.filled - 1):
            raise NoEntry(index)
        return self._entries[index]

    def slot_at(self, slot):
        """Return what a slot holds."""
        return self._slots.value_at(slot)

    def trail_slots(self, code):
        """Return a list of the slots on the trail of a code."""
        return self._slots.trail(code)

    def layout(self):
        """Return (size, slots, entries, mark)."""
        return self.size, self._slots.as_tuple(), tuple(self._entries), self._mark

    def each_key(self):
        """Yield the keys in order."""
        for entry in self._live_entries():
            yield entry[0]

    def each_pair(self):
        """Yield the pairs (key, value) in order."""
        for entry in self._live_entries():
            yield entry[0], entry[2]

    def each_value(self):
        """Yield the values in order."""
        for entry in self._live_entries():
            yield entry[2]

    def _live_entries(self):
        return [entry for entry in self._entries if entry is not None]

    def put(self, key, value):
        """Replace the value of a key, or add an entry for it."""
        self._put_coded(key, asked_code(key), value)

    def get(self, key, default=None):
        """Return the value of a key, or the default."""
        index = self._index_of(key)
        return default if index < 0 else self._value_at(index)

    def fetch(self, key):
        """Return the value of a key that is there."""
        return self._value_at(self._need_key(key))

    def has(self, key):
        """Tell whether a key is there."""
        return self._index_of(key) >= 0

    def probe_count(self, key):
        """Return how many slots the lookup of a key looks at."""
        _, _, looked = seek_key(self, key)
        return looked

    def drop(self, key):
        """Remove the entry of a key that is there."""
        index = self._need_key(key)
        self._need_free()
        self._remove(index)

    def take(self, key, default=None):
        """Remove the entry of a key and return its value, or return the default."""
        index = self._index_of(key)
        if index < 0:
            return default
        self._need_free()
        return self._remove(index)[2]

    def set_default(self, key, value=None):
        """Return the value of a key; if it is not there, add it with this value first."""
        code = asked_code(key)
        _, index, _ = seek(self, key, code)
        if index >= 0:
            return self._value_at(index)
        self._need_space()
        self._add(key, code, value)
        return value

    def _index_of(self, key):
        _, index, _ = seek_key(self, key)
        return index

    def _need_key(self, key):
        index = self._index_of(key)
        if index < 0:
            raise Missing(key)
        return index

    def _put_coded(self, key, code, value):
        _, index, _ = seek(self, key, code)
        if index >= 0:
            self._replace(index, value)
        else:
            self._need_space()
            self._add(key, code, value)

    def pop_last(self):
        """Remove the last live entry, and return its pair."""
        if self._live == 0:
            raise Empty("the table has no entries")
        self._need_free()
        last = max([index for index, entry in enumerate(self._entries) if entry is not None])
        key, _, value = self._remove(last)
        return key, value

    def replace_at(self, index, value):
        """Replace the value of the live entry with this index."""
        self._need_live(index)
        self._replace(index, value)

    def remove_at(self, index):
        """Remove the live entry with this index."""
        self._need_live(index)
        self._need_free()
        self._remove(index)

    def merge(self, *others, **more):
        """Put the entries of tables, the pairs of lists and tuples, and then names with their values."""
        sources = []
        for index, other in enumerate(others):
            if not isinstance(other, Table) and not _is_pairs(other):
                raise BadPairs(index)
            sources.append(other if isinstance(other, Table) else list(other))
        for source in sources:
            if isinstance(source, Table):
                self._merge_entries(source._live_entries())
            else:
                self._merge_pairs(source)
        self._merge_pairs(list(more.items()))

    def _merge_entries(self, entries):
        for key, code, value in entries:
            self._put_coded(key, code, value)

    def _merge_pairs(self, pairs):
        for key, value in pairs:
            self.put(key, value)

    def copy(self):
        """Return a new plain table with the same live entries and the same size."""
        other = Table()
        other._fill(self.size, self._live_entries())
        return other

    def same_pairs(self, other):
        """Tell whether another table has identical keys and equal values in the same order."""
        if not isinstance(other, Table) or self._live != other.live:
            return False
        for own, its in zip(list(self.each_pair()), list(other.each_pair())):
            if not (own[0] == its[0] and own[1] == its[1]):
                return False
        return True

    def clear(self):
        """Remove everything, and go back to the least size."""
        if self.filled > 0 or self.size > self.MIN_SIZE:
            self._need_free()
            self._clear()

    def compact(self):
        """Rebuild the table at the same size if there is a hole."""
        if self.filled > self._live:
            self._need_free()
            self._rebuild(self.size)

    def shrink(self):
        """Rebuild the table at the least size for its entries if it is larger."""
        size = size_for(self._live)
        if size < self.size:
            self._need_free()
            self._rebuild(size)

    def reserve(self, many):
        """Rebuild the table for so many entries if the room is too small for them."""
        if not is_between(many, 0, Table.MAX_LIVE):
            raise BadSize("this is no number of entries that a table can have")
        if self.room < many - self._live:
            self._need_free()
            self._rebuild(size_for(many))

    def hold(self):
        """Hold the table once more."""
        self._holds += 1

    def release(self):
        """End one hold."""
        if self._holds == 0:
            raise NotHeld("the table is not held")
        self._holds -= 1

    def _need_free(self):
        if self._holds > 0:
            raise Locked("the table is held")

    def _need_space(self):
        self._need_free()
        if self._live >= self.MAX_LIVE:
            raise TooLarge(self.MAX_LIVE)

    def _need_live(self, index):
        if not is_between(index, 0, self.filled - 1) or self._entries[index] is None:
            raise NoEntry(index)

    def _value_at(self, index):
        return self._entries[index][2]

    def _add(self, key, code, value):
        if self.room == 0:
            self._rebuild(growth(self._live))
        self._slots.place(code, self.filled)
        self._entries.append((key, code, value))
        self._live += 1
        self._mark += 1
        self._changes += 1

    def _replace(self, index, value):
        key, code, _ = self._entries[index]
        self._entries[index] = (key, code, value)

    def _remove(self, index):
        entry = self._entries[index]
        self._slots.erase(self._slots.slot_of(entry[1], index))
        self._entries[index] = None
        self._live -= 1
        self._mark += 1
        self._changes += 1
        return entry

    def _clear(self):
        if self._live > 0:
            self._changes += 1
        self._fill(self.MIN_SIZE, [])
        self._mark += 1

    def _rebuild(self, size):
        self._fill(size, self._live_entries())
        self._mark += 1

    def _fill(self, size, entries):
        self._slots.refill(size, [entry[1] for entry in entries])
        self._entries = entries
        self._live = len(entries)
