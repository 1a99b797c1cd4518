"""Cursors, which go through the entries of a table, and generators that walk over all of them."""

from entryhall.codes import is_between, is_count, need_code
from entryhall.errors import BadSize, ChangedKeys, ChangedSize, Empty, NoEntry
from entryhall.table import need_table


def _need_count(many):
    if not is_count(many):
        raise BadSize("this is no number of entries")


def _pair_at(table, index):
    key, _, value = table.entry_at(index)
    return key, value


class Cursor:
    """A place among the live entries of a table, from which steps lead on."""

    def __init__(self, table, *, backwards=False, start=0):
        need_table(table)
        self._table = table
        self._backwards = backwards
        self._begin(start)

    def _begin(self, start):
        if not is_between(start, 0, self._table.live):
            raise NoEntry(start)
        self._position = start
        self._ended = False
        self._is_on_entry = False
        self._note()

    def _note(self):
        self._noted_changes = self._table.changes
        self._noted_live = self._table.live

    @property
    def position(self):
        """The number of live entries that the cursor has passed."""
        return self._position

    @property
    def has_ended(self):
        """Whether a step has found no entry."""
        return self._ended

    @property
    def is_stale(self):
        """Whether the table was changed behind the cursor's back."""
        return not self._ended and self._table.changes != self._noted_changes

    def step(self):
        """Pass entries up to the next accepted one, and return its pair, or None at the end."""
        self._need_fresh()
        return self._step()

    def peek(self):
        """Return the pair that a step would give, without a step."""
        self._need_fresh()
        ahead = self._ahead()
        return _pair_at(self._table, ahead[0][1]) if ahead else None

    def left(self):
        """Return how many accepted entries are still to come."""
        self._need_fresh()
        return len(self._ahead())

    def take_many(self, most):
        """Make at most so many steps, and return a list of the pairs that they give."""
        _need_count(most)
        self._need_fresh()
        return self._step_often(most)

    def skip(self, many):
        """Make at most so many steps, and return how many pairs they give."""
        _need_count(many)
        self._need_fresh()
        return len(self._step_often(many))

    def current(self):
        """Return the pair of the current entry."""
        return _pair_at(self._table, self._current_index())

    def set_current(self, value):
        """Replace the value of the current entry."""
        self._table.replace_at(self._current_index(), value)

    def drop_current(self):
        """Remove the current entry, and return its pair."""
        index = self._current_index()
        pair = _pair_at(self._table, index)
        self._table.remove_at(index)
        self._position -= 1
        self._is_on_entry = False
        self._note()
        return pair

    def restart(self, *, start=0):
        """Begin anew at a position."""
        self._begin(start)

    def twin(self):
        """Return another cursor in the same state."""
        other = Cursor(self._table, backwards=self._backwards)
        self._give_state(other)
        return other

    def _give_state(self, other):
        other._position = self._position
        other._ended = self._ended
        other._is_on_entry = self._is_on_entry
        other._noted_changes = self._noted_changes
        other._noted_live = self._noted_live

    def _need_fresh(self):
        if not self.is_stale:
            return
        if self._table.live != self._noted_live:
            raise ChangedSize(self._noted_live)
        raise ChangedKeys("entries of the table were added and removed")

    def _accepts(self, index):
        """Tell whether the cursor accepts the live entry with this index: this one accepts all."""
        return True

    def _indexes(self):
        indexes = self._table.live_indexes()
        return indexes[::-1] if self._backwards else indexes

    def _ahead(self):
        """Return the accepted entries still to come, each as (how many are passed behind it, its index)."""
        if self._ended:
            return []
        rows = list(enumerate(self._indexes(), start=1))
        return [(passed, index) for passed, index in rows[self._position:] if self._accepts(index)]

    def _step(self):
        ahead = self._ahead()
        self._is_on_entry = len(ahead) > 0
        if ahead:
            self._position, index = ahead[0]
            return _pair_at(self._table, index)
        # What is added after the end does not move a cursor that has ended.
        if not self._ended:
            self._position = self._table.live
            self._ended = True
        return None

    def _step_often(self, most):
        pairs = []
        while len(pairs) < most:
            pair = self._step()
            if pair is None:
                break
            pairs.append(pair)
        return pairs

    def _current_index(self):
        self._need_fresh()
        if not self._is_on_entry:
            raise Empty("no entry is current")
        return self._indexes()[self._position - 1]


class CodeCursor(Cursor):
    """A cursor that accepts the entries whose stored codes are within bounds."""

    def __init__(self, table, low, high, *, backwards=False):
        super().__init__(table, backwards=backwards)
        need_code(low)
        need_code(high)
        self._low = low
        self._high = high

    @property
    def bounds(self):
        """The least and the greatest code that the cursor accepts."""
        return self._low, self._high

    def twin(self):
        """Return another cursor with the same bounds in the same state."""
        other = CodeCursor(self._table, self._low, self._high, backwards=self._backwards)
        self._give_state(other)
        return other

    def _accepts(self, index):
        _, code, _ = self._table.entry_at(index)
        return self._low <= code <= self._high


def _pairs_of(table, backwards):
    need_table(table)
    pairs = list(table.each_pair())
    return pairs[::-1] if backwards else pairs


def walk_keys(table, *, backwards=False):
    """Yield all keys in order, or backwards."""
    for key, _ in _pairs_of(table, backwards):
        yield key


def walk_items(table, *, backwards=False):
    """Yield all pairs in order, or backwards."""
    for pair in _pairs_of(table, backwards):
        yield pair


def walk_slots(table):
    """Yield the pairs (slot, index) of all slots that hold an index."""
    need_table(table)
    for slot in range(table.size):
        index = table.slot_at(slot)
        if index >= 0:
            yield slot, index


def drain(table, *, most=None):
    """Remove the first entry and yield its pair, again and again."""
    need_table(table)
    if most is not None:
        _need_count(most)
    many = 0
    while table.live > 0 and (most is None or many < most):
        index = table.live_indexes()[0]
        pair = _pair_at(table, index)
        table.remove_at(index)
        many += 1
        yield pair
