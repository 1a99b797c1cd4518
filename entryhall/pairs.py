"""A plain list of pairs that answers as a table does, to hold tables against."""

from entryhall.errors import BadPairs, Empty, Missing, TooLarge
from entryhall.inside import are_same_pairs
from entryhall.table import Table, is_pairs, merge_into
from entryhall.unruly import are_asked, asked_code


class Stored:
    """A pair of the list, with the code that its key had when it was added."""

    def __init__(self, key, stored_code, value):
        self.key = key
        self.stored_code = stored_code
        self.value = value


class PairList:
    """A dictionary without slots: each call goes through the pairs from the first one on."""

    MAX_LIVE = 600

    def __init__(self, pairs=()):
        self._pairs = []
        self.merge(pairs)

    @property
    def live(self):
        """The number of pairs."""
        return len(self._pairs)

    def each_key(self):
        """Yield the keys in order."""
        for stored in self._pairs:
            yield stored.key

    def each_pair(self):
        """Yield the pairs (key, value) in order."""
        for stored in self._pairs:
            yield stored.key, stored.value

    def each_value(self):
        """Yield the values in order."""
        for stored in self._pairs:
            yield stored.value

    def live_entries(self):
        """Return a list of the pairs with their codes, each a tuple (key, code, value)."""
        return [(stored.key, stored.stored_code, stored.value) for stored in self._pairs]

    def put(self, key, value):
        """Replace the value of a key, or add a pair for it."""
        self.put_coded(key, asked_code(key), value)

    def put_coded(self, key, code, value):
        """Put a key whose code is known already."""
        found = self._find(key, code)
        if found is None:
            self._add(key, code, value)
        else:
            found.value = value

    def get(self, key, default=None):
        """Return the value of a key, or the default."""
        found = self._find(key, asked_code(key))
        return default if found is None else found.value

    def fetch(self, key):
        """Return the value of a key that is there."""
        return self._need_found(key).value

    def has(self, key):
        """Tell whether a key is there."""
        return self._find(key, asked_code(key)) is not None

    def drop(self, key):
        """Remove the pair of a key that is there."""
        self._remove(self._need_found(key))

    def take(self, key, default=None):
        """Remove the pair of a key and return its value, or return the default."""
        found = self._find(key, asked_code(key))
        if found is None:
            return default
        self._remove(found)
        return found.value

    def set_default(self, key, value=None):
        """Return the value of a key; if it is not there, add it with this value first."""
        code = asked_code(key)
        found = self._find(key, code)
        if found is not None:
            return found.value
        self._add(key, code, value)
        return value

    def pop_last(self):
        """Remove the last pair, and return it."""
        if self.live == 0:
            raise Empty("the list has no pairs")
        last = self._pairs[-1]
        self._remove(last)
        return last.key, last.value

    def clear(self):
        """Remove all pairs."""
        self._pairs = []

    def merge(self, *others, **more):
        """Put the pairs of tables and of other lists, and then names with their values."""
        sources = []
        for index, other in enumerate(others):
            coded = isinstance(other, (Table, PairList))
            if not coded and not is_pairs(other):
                raise BadPairs(index)
            sources.append(other if coded else list(other))
        merge_into(self, sources + [list(more.items())])

    def copy(self):
        """Return a new list with the same pairs."""
        other = PairList()
        other._pairs = [Stored(key, code, value) for key, code, value in self.live_entries()]
        return other

    def same_pairs(self, other):
        """Tell whether another list has identical keys and equal values in the same order."""
        return isinstance(other, PairList) and are_same_pairs(self.live_entries(), other.live_entries())

    def agrees(self, table):
        """Tell whether a table has identical keys and equal values in the same order."""
        return isinstance(table, Table) and are_same_pairs(table.live_entries(), self.live_entries())

    def _find(self, key, code):
        # A copy is gone through, because keys may do anything when they are asked.
        for stored in list(self._pairs):
            if stored.key == key:
                return stored
            if stored.stored_code == code and are_asked(stored.key, key):
                return stored
        return None

    def _need_found(self, key):
        found = self._find(key, asked_code(key))
        if found is None:
            raise Missing(key)
        return found

    def _add(self, key, code, value):
        if self.live >= self.MAX_LIVE:
            raise TooLarge(self.MAX_LIVE)
        self._pairs.append(Stored(key, code, value))

    def _remove(self, gone):
        self._pairs = [stored for stored in self._pairs if stored != gone]
