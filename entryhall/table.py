"""The table: entries in the order in which they were added, and the slots that lead to them."""

from entryhall.codes import code_of, is_between
from entryhall.errors import BadPairs, BadSize, BadView, Empty, Locked, Missing, NoEntry, NotHeld, TooLarge
from entryhall.inside import Inside, are_same_pairs
from entryhall.seeking import seek, seek_key
from entryhall.slots import SlotTable, capacity, growth, size_for
from entryhall.unruly import asked_code


def is_pairs(thing):
    """Tell whether a thing is a list or tuple of pairs."""
    if not isinstance(thing, (list, tuple)):
        return False
    return all([isinstance(pair, tuple) and len(pair) == 2 for pair in thing])


def merge_into(target, sources):
    """Put lists of pairs, and the entries of what has stored codes, as they are when their turn comes."""
    for source in sources:
        if isinstance(source, list):
            for key, value in source:
                target.put(key, value)
        else:
            for key, code, value in source.live_entries():
                target.put_coded(key, code, value)


def need_table(thing):
    """Refuse what is no table, where a cursor or a view is made of it."""
    if not isinstance(thing, Table):
        raise BadView("this is no table")


class Table:
    """A dictionary that keeps the order of its entries and shows its inside."""

    MIN_SIZE = 8
    MAX_LIVE = 600
    MAX_RESTARTS = 16

    def __init__(self, pairs=()):
        self._inside = Inside(SlotTable(self.MIN_SIZE), [])
        self._mark = 0
        self._changes = 0
        self._holds = 0
        self.merge(pairs)

    @classmethod
    def of(cls, *pairs):
        """Return a new table with these pairs."""
        return cls(pairs)

    @classmethod
    def from_keys(cls, keys, value=None):
        """Return a new table in which each of the keys has the value."""
        if not isinstance(keys, (list, tuple)):
            raise BadPairs(0)
        return cls([(key, value) for key in keys])

    @staticmethod
    def plain_code(key):
        """Return the code of a plain key."""
        return code_of(key)

    @property
    def live(self):
        """The number of entries that are not holes."""
        return self._inside.many

    @property
    def filled(self):
        """The number of entries with the holes."""
        return len(self._inside.entries)

    @property
    def size(self):
        """The number of slots."""
        return self._inside.slots.size

    @property
    def capacity(self):
        """How many entries, holes among them, the slots have room for."""
        return capacity(self.size)

    @property
    def room(self):
        """How many entries can still be added without a rebuild."""
        return self.capacity - self.filled

    @property
    def mark(self):
        """How often an entry was added or removed, or the table rebuilt or cleared."""
        return self._mark

    @property
    def changes(self):
        """How often an entry was added or removed, or live entries were cleared away."""
        return self._changes

    @property
    def is_held(self):
        """Whether the table is held."""
        return self._holds > 0

    def entry_at(self, index):
        """Return the entry with this index, (key, code, value), or None for a hole."""
        if not is_between(index, 0, self.filled - 1):
            raise NoEntry(index)
        return self._inside.entries[index]

    def slot_at(self, slot):
        """Return what a slot holds."""
        return self._inside.slots.value_at(slot)

    def trail_slots(self, code):
        """Return a list of the slots on the trail of a code."""
        return self._inside.slots.trail(code)

    def layout(self):
        """Return (size, slots, entries, mark)."""
        return self.size, self._inside.slots.as_tuple(), tuple(self._inside.entries), self._mark

    def live_entries(self):
        """Return a list of the live entries, each a tuple (key, code, value)."""
        return self._inside.live_entries()

    def live_indexes(self):
        """Return a list of the indexes of the live entries."""
        return self._inside.live_indexes()

    def each_key(self):
        """Yield the keys in order."""
        for entry in self.live_entries():
            yield entry[0]

    def each_pair(self):
        """Yield the pairs (key, value) in order."""
        for entry in self.live_entries():
            yield entry[0], entry[2]

    def each_value(self):
        """Yield the values in order."""
        for entry in self.live_entries():
            yield entry[2]

    def put(self, key, value):
        """Replace the value of a key, or add an entry for it."""
        self.put_coded(key, asked_code(key), value)

    def put_coded(self, key, code, value):
        """Put a key whose code is known already."""
        _, index, _ = seek(self, key, code)
        if index >= 0:
            self._replace(index, value)
        else:
            self._need_space()
            self._add(key, code, value)

    def get(self, key, default=None):
        """Return the value of a key, or the default."""
        index = self._index_of(key)
        return default if index < 0 else self._value_at(index)

    def fetch(self, key):
        """Return the value of a key that is there."""
        return self._value_at(self._need_key(key))

    def has(self, key):
        """Tell whether a key is there."""
        return self._index_of(key) >= 0

    def probe_count(self, key):
        """Return how many slots the lookup of a key looks at."""
        _, _, looked = seek_key(self, key)
        return looked

    def drop(self, key):
        """Remove the entry of a key that is there."""
        index = self._need_key(key)
        self._need_free()
        self._remove(index)

    def take(self, key, default=None):
        """Remove the entry of a key and return its value, or return the default."""
        index = self._index_of(key)
        if index < 0:
            return default
        self._need_free()
        return self._remove(index)[2]

    def set_default(self, key, value=None):
        """Return the value of a key; if it is not there, add it with this value first."""
        code = asked_code(key)
        _, index, _ = seek(self, key, code)
        if index >= 0:
            return self._value_at(index)
        self._need_space()
        self._add(key, code, value)
        return value

    def _index_of(self, key):
        _, index, _ = seek_key(self, key)
        return index

    def _need_key(self, key):
        index = self._index_of(key)
        if index < 0:
            raise Missing(key)
        return index

    def pop_last(self):
        """Remove the last live entry, and return its pair."""
        self._need_entries()
        self._need_free()
        key, _, value = self._remove(self.live_indexes()[-1])
        return key, value

    def replace_at(self, index, value):
        """Replace the value of the live entry with this index."""
        self._need_live(index)
        self._replace(index, value)

    def remove_at(self, index):
        """Remove the live entry with this index."""
        self._need_live(index)
        self._need_free()
        self._remove(index)

    def merge(self, *others, **more):
        """Put the entries of tables, the pairs of lists and tuples, and then names with their values."""
        sources = []
        for index, other in enumerate(others):
            if not isinstance(other, Table) and not is_pairs(other):
                raise BadPairs(index)
            sources.append(other if isinstance(other, Table) else list(other))
        merge_into(self, sources + [list(more.items())])

    def copy(self):
        """Return a new plain table with the same live entries and the same size."""
        other = Table()
        other._inside.fill(self.size, self.live_entries())
        return other

    def same_pairs(self, other):
        """Tell whether another table has identical keys and equal values in the same order."""
        return isinstance(other, Table) and are_same_pairs(self.live_entries(), other.live_entries())

    def clear(self):
        """Remove everything, and go back to the least size."""
        if self.filled > 0 or self.size > self.MIN_SIZE:
            self._need_free()
            self._clear()

    def compact(self):
        """Rebuild the table at the same size if there is a hole."""
        if self.filled > self.live:
            self._need_free()
            self._rebuild(self.size)

    def shrink(self):
        """Rebuild the table at the least size for its entries if it is larger."""
        size = size_for(self.live)
        if size < self.size:
            self._need_free()
            self._rebuild(size)

    def reserve(self, many):
        """Rebuild the table for so many entries if the room is too small for them."""
        if not is_between(many, 0, Table.MAX_LIVE):
            raise BadSize("this is no number of entries that a table can have")
        if self.room < many - self.live:
            self._need_free()
            self._rebuild(size_for(many))

    def hold(self):
        """Hold the table once more."""
        self._holds += 1

    def release(self):
        """End one hold."""
        if self._holds == 0:
            raise NotHeld("the table is not held")
        self._holds -= 1

    def inside_now(self):
        """Return a copy of the inside, to which the table can be set back."""
        return self._inside.twin()

    def holds_now(self):
        """Return how often the table is held."""
        return self._holds

    def set_back(self, inside):
        """Take over a copy of an inside; the holds stay, the mark and the changes go on."""
        self._inside = inside.twin()
        self._count_change()

    def _need_free(self):
        if self._holds > 0:
            raise Locked("the table is held")

    def _need_space(self):
        self._need_free()
        if self.live >= self.MAX_LIVE:
            raise TooLarge(self.MAX_LIVE)

    def _need_entries(self):
        if self.live == 0:
            raise Empty("the table has no entries")

    def _need_live(self, index):
        if self.entry_at(index) is None:
            raise NoEntry(index)

    def _value_at(self, index):
        return self._inside.entries[index][2]

    def _act(self, change):
        """Act on a change, which is described as a record: nothing to do in a plain table.

        Classes below extend this, each with a call of super() before its own part.
        """

    def _count_change(self):
        self._mark += 1
        self._changes += 1

    def _add(self, key, code, value):
        if self.room == 0:
            self._rebuild(growth(self.live))
        self._inside.put_in((key, code, value))
        self._count_change()
        self._act(("added", key, value))

    def _replace(self, index, value):
        key, code, before = self._inside.entries[index]
        self._inside.entries[index] = (key, code, value)
        self._act(("replaced", key, before, value))

    def _remove(self, index):
        entry = self._inside.take_out(index)
        self._count_change()
        self._act(("removed", entry[0], entry[2]))
        return entry

    def _clear(self):
        many = self.live
        self._inside.fill(self.MIN_SIZE, [])
        self._mark += 1
        if many > 0:
            self._changes += 1
            self._act(("cleared", many))

    def _rebuild(self, size):
        self._inside.fill(size, self.live_entries())
        self._mark += 1
