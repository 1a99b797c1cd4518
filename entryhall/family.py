"""Special tables: bounded, journaled, with defaults, with an order that can be changed, and mixtures."""

from entryhall.codes import is_between
from entryhall.errors import BadSize, Missing, NoEntry
from entryhall.seeking import seek
from entryhall.table import Table
from entryhall.unruly import asked_code


def _need_bound(bound):
    if not is_between(bound, 1, Table.MAX_LIVE):
        raise BadSize("this is no bound of a table")


# A constructor hands the parameters that are not its own on to the next class,
# so that these classes can stand in any order among the bases of another one.


class BoundedTable(Table):
    """A table that removes its first entries when there are more than its bound."""

    def __init__(self, pairs=(), *, bound=8, **more):
        _need_bound(bound)
        self._bound = bound
        super().__init__(pairs, **more)

    @property
    def bound(self):
        """The greatest number of live entries."""
        return self._bound

    @property
    def evicted(self):
        """The pairs that were removed because of the bound, the earliest first."""
        return tuple(self._inside.pushed)

    def set_bound(self, bound):
        """Set the bound, and remove entries that are too many."""
        _need_bound(bound)
        if self.live > bound:
            self._need_free()
        self._bound = bound
        self._evict()

    def _evict(self):
        while self.live > self._bound:
            key, _, value = self._remove(self.live_indexes()[0])
            self._inside.pushed.append((key, value))

    def _act(self, change):
        super()._act(change)
        if change[0] == "added":
            self._evict()


class JournaledTable(Table):
    """A table that writes a record of each change."""

    @property
    def records(self):
        """The records, the earliest first."""
        return tuple(self._inside.written)

    def forget(self):
        """Forget all records."""
        self._inside.written = []

    def _act(self, change):
        super()._act(change)
        self._inside.written.append(change)


class DefaultTable(Table):
    """A table whose fetch makes the value of a key that is not there."""

    def __init__(self, pairs=(), *, maker=None, **more):
        self._maker = maker
        super().__init__(pairs, **more)

    @property
    def has_maker(self):
        """Whether there is something that makes values."""
        return self._maker is not None

    def fetch(self, key):
        """Return the value of a key; if it is not there, have it made and put it."""
        code = asked_code(key)
        _, index, _ = seek(self, key, code)
        return self._made(key, code) if index < 0 else self._value_at(index)

    def _made(self, key, code):
        if self._maker is None:
            raise Missing(key)
        self._need_space()
        value = self._maker(key)
        # The maker may have changed the table, so the key is looked up again.
        self.put_coded(key, code, value)
        return value


class OrderedTable(Table):
    """A table whose entries can be moved to its end and to its front."""

    def move_last(self, key):
        """Move the entry of a key to the end, and tell whether it was not there already."""
        return self._move_to_end(self._need_key(key))

    def move_first(self, key):
        """Move the entry of a key to the front, and tell whether it was not there already."""
        return self._move_to_front(self._need_key(key))

    def place_of(self, key):
        """Return the number of live entries before that of a key."""
        index = self._need_key(key)
        return self.live_indexes().index(index)

    def at(self, place):
        """Return the pair of the live entry with so many live entries before it."""
        if not is_between(place, 0, self.live - 1):
            raise NoEntry(place)
        key, _, value = self.live_entries()[place]
        return key, value

    def pop_first(self):
        """Remove the first live entry, and return its pair."""
        self._need_entries()
        self._need_free()
        key, _, value = self._remove(self.live_indexes()[0])
        return key, value

    # No class acts on a move, so both kinds of it change the inside themselves.

    def _move_to_end(self, index):
        if index == self.live_indexes()[-1]:
            return False
        self._need_free()
        entry = self._inside.take_out(index)
        self._count_change()
        if self.room == 0:
            self._rebuild(self.size)
        self._inside.put_in(entry)
        self._count_change()
        return True

    def _move_to_front(self, index):
        if index == self.live_indexes()[0]:
            return False
        self._need_free()
        entry = self.entry_at(index)
        others = [self.entry_at(other) for other in self.live_indexes() if other != index]
        self._inside.fill(self.size, [entry] + others)
        self._count_change()
        return True


class RecentTable(OrderedTable, BoundedTable):
    """A bounded table that removes the entry first that was not fetched for the longest time."""

    def fetch(self, key):
        """Return the value of a key that is there, and move its entry to the end."""
        return self._used(self._need_key(key))

    def _used(self, index):
        value = self._value_at(index)
        if not self.is_held:
            self._move_to_end(index)
        return value


class DefaultRecent(DefaultTable, RecentTable):
    """A RecentTable whose fetch makes the value of a key that is not there."""

    def fetch(self, key):
        """Return the value of a key, and move its entry to the end; if it is not there, have it made."""
        code = asked_code(key)
        _, index, _ = seek(self, key, code)
        return self._made(key, code) if index < 0 else self._used(index)


class JournaledBounded(JournaledTable, BoundedTable):
    """A journaled and bounded table that removes entries before it writes of the one that was added."""


class BoundedJournaled(BoundedTable, JournaledTable):
    """A journaled and bounded table that writes of an entry that was added before it removes others."""


class Numbering:
    """A maker that returns one number after another."""

    def __init__(self, start=0, by=1):
        self._start = start
        self._by = by
        self._given = 0

    def __call__(self, key):
        number = self._start + self._given * self._by
        self._given += 1
        return number

    @property
    def given(self):
        """How many numbers were returned."""
        return self._given
