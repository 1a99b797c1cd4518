"""Views, which show the keys, the values or the pairs of a table as it is at each call."""

from entryhall.codes import is_between, is_count
from entryhall.errors import BadSize, BadView, Missing, NoEntry
from entryhall.lookups import Lookups
from entryhall.seeking import seek_key
from entryhall.table import Table, need_table
from entryhall.unruly import need_key


def _keys_of(entries):
    return [key for key, _, _ in entries]


def _pairs_of(entries):
    return [(key, value) for key, _, value in entries]


def _row_at(rows, position):
    if not is_between(position, -len(rows), len(rows) - 1):
        raise NoEntry(position)
    return rows[position]


def _window(rows, backwards, start, most):
    if not is_count(start):
        raise BadSize("this is no position to start from")
    if most is not None and not is_count(most):
        raise BadSize("this is no number of entries")
    ordered = rows[::-1] if backwards else rows
    return ordered[start:] if most is None else ordered[start:start + most]


class View:
    """What all views know: their table, and its changes when they were made."""

    def __init__(self, table):
        need_table(table)
        self._table = table
        self._changes_then = table.changes

    def shown_table(self):
        """Return the table that the view shows."""
        return self._table

    def _own_entries(self):
        return self._table.live_entries()

    def _has_grown(self):
        return self._table.changes > self._changes_then


class KeyView(View):
    """A view of the keys of a table."""

    def how_many(self):
        """Return the number of keys."""
        return self._table.live

    def listed(self, *, backwards=False, start=0, most=None):
        """Return the keys from a position on, at most so many."""
        return _window(self._own_keys(), backwards, start, most)

    def has_changed(self):
        """Tell whether keys were added or removed since the view was made."""
        return self._has_grown()

    def key_at(self, position):
        """Return the key at a position."""
        return _row_at(self._own_keys(), position)

    def position_of(self, key):
        """Return the position of a key that is there."""
        _, index, _ = seek_key(self._table, key)
        if index < 0:
            raise Missing(key)
        return self._table.live_indexes().index(index)

    def has_key(self, key):
        """Tell whether a key is there."""
        return self._table.has(key)

    def each_from(self, position):
        """Yield the keys from a position on."""
        if not is_between(position, 0, self._table.live):
            raise NoEntry(position)
        for key in self._own_keys()[position:]:
            yield key

    def both(self, other):
        """Return the keys that are in the other."""
        its = _operand_of_keys(other)
        return _keys_of(Lookups(self._table, its).those_in(its, self._own_entries()))

    def only(self, other):
        """Return the keys that are not in the other."""
        its = _operand_of_keys(other)
        return _keys_of(Lookups(self._table, its).those_not_in(its, self._own_entries()))

    def either(self, other):
        """Return all keys, and those of the other that are not here."""
        its = _operand_of_keys(other)
        added = Lookups(self._table, its).those_not_in(self._table, its.live_entries())
        return self._own_keys() + _keys_of(added)

    def one_of(self, other):
        """Return the keys that are not in the other, and those of the other that are not here."""
        its = _operand_of_keys(other)
        lookups = Lookups(self._table, its)
        kept = lookups.those_not_in(its, self._own_entries())
        return _keys_of(kept + lookups.those_not_in(self._table, its.live_entries()))

    def is_part(self, other):
        """Tell whether all keys are in the other."""
        its = _operand_of_keys(other)
        return Lookups(self._table, its).are_all_in(its, self._own_entries())

    def covers(self, other):
        """Tell whether all keys of the other are here."""
        its = _operand_of_keys(other)
        return Lookups(self._table, its).are_all_in(self._table, its.live_entries())

    def is_apart(self, other):
        """Tell whether no key is in the other."""
        its = _operand_of_keys(other)
        return Lookups(self._table, its).are_none_in(its, self._own_entries())

    def same_keys(self, other):
        """Tell whether the other has equally many keys, and all own keys are in it."""
        its = _operand_of_keys(other)
        return its.live == self._table.live and Lookups(self._table, its).are_all_in(its, self._own_entries())

    def same_order(self, other):
        """Tell whether the other has equally many keys, and each own key at its own position."""
        its = _operand_of_keys(other)
        if its.live != self._table.live:
            return False
        lookups = Lookups(self._table, its)
        for entry, index in zip(self._own_entries(), its.live_indexes()):
            if lookups.index_in(its, entry) != index:
                return False
        return True

    def common(self, *others):
        """Return the keys that are in all others."""
        tables = [_operand_of_keys(other) for other in others]
        lookups = Lookups(self._table, *tables)
        return _keys_of([entry for entry in self._own_entries() if lookups.is_in_all(tables, entry)])

    def together(self, *others):
        """Return all keys, and those of each other that are neither here nor in an other before it."""
        tables = [_operand_of_keys(other) for other in others]
        lookups = Lookups(self._table, *tables)
        keys = self._own_keys()
        for many, table in enumerate(tables):
            before = [self._table] + tables[:many]
            entries = table.live_entries()
            keys = keys + _keys_of([entry for entry in entries if lookups.is_in_none(before, entry)])
        return keys

    def _own_keys(self):
        return _keys_of(self._own_entries())


def _operand_of_keys(thing):
    """Return the table that an operand of a view of keys stands for."""
    if isinstance(thing, KeyView):
        return thing.shown_table()
    if isinstance(thing, (list, tuple)):
        return Table.from_keys(thing)
    if not isinstance(thing, Table):
        raise BadView("a view of keys can't be compared with this")
    return thing


class ValueView(View):
    """A view of the values of a table."""

    def how_many(self):
        """Return the number of values."""
        return self._table.live

    def listed(self, *, backwards=False, start=0, most=None):
        """Return the values from a position on, at most so many."""
        return _window(self._own_values(), backwards, start, most)

    def has_changed(self):
        """Tell whether keys were added or removed since the view was made."""
        return self._has_grown()

    def value_at(self, position):
        """Return the value at a position."""
        return _row_at(self._own_values(), position)

    def has_value(self, value):
        """Tell whether some value is equal to this one."""
        for stored in self._own_values():
            if stored == value:
                return True
        return False

    def count_value(self, value):
        """Return how many values are equal to this one."""
        return len(self.keys_with(value))

    def keys_with(self, value):
        """Return the keys whose values are equal to this one."""
        return [key for key, _, stored in self._own_entries() if stored == value]

    def distinct(self):
        """Return the values without those that are equal to an earlier one in the list."""
        values, _ = _grouped(self._own_entries())
        return values

    def groups(self):
        """Return for each distinct value the list of its keys."""
        _, groups = _grouped(self._own_entries())
        return groups

    def _own_values(self):
        return [value for _, _, value in self._own_entries()]


def _grouped(entries):
    """Return the list of the distinct values, and for each of them the list of its keys."""
    values = []
    groups = []
    for key, _, value in entries:
        place = _place_among(values, value)
        if place < 0:
            values.append(value)
            groups.append([key])
        else:
            groups[place].append(key)
    return values, groups


def _place_among(values, value):
    for place, earlier in enumerate(values):
        if value == earlier:
            return place
    return -1


class ItemView(View):
    """A view of the pairs of a table."""

    def how_many(self):
        """Return the number of pairs."""
        return self._table.live

    def listed(self, *, backwards=False, start=0, most=None):
        """Return the pairs from a position on, at most so many."""
        return _window(self._own_pairs(), backwards, start, most)

    def has_changed(self):
        """Tell whether keys were added or removed since the view was made."""
        return self._has_grown()

    def pair_at(self, position):
        """Return the pair at a position."""
        return _row_at(self._own_pairs(), position)

    def has_pair(self, key, value):
        """Tell whether a key is there with an equal value."""
        _, index, _ = seek_key(self._table, key)
        return index >= 0 and bool(self._table.entry_at(index)[2] == value)

    def both(self, other):
        """Return the pairs that are in the other with an equal value."""
        its = _operand_of_pairs(other)
        rows = self._rows_in(its, Lookups(self._table, its))
        return [(key, value) for key, value, found in rows if found and value == found[0]]

    def only(self, other):
        """Return the pairs that are not in the other with an equal value."""
        its = _operand_of_pairs(other)
        rows = self._rows_in(its, Lookups(self._table, its))
        return [(key, value) for key, value, found in rows if not (found and value == found[0])]

    def delta_to(self, other):
        """Return what was removed, replaced and added on the way to the other."""
        its = _operand_of_pairs(other)
        lookups = Lookups(self._table, its)
        rows = self._rows_in(its, lookups)
        removed = [key for key, _, found in rows if not found]
        replaced = [(key, value, found[0]) for key, value, found in rows if found and not value == found[0]]
        return removed, replaced, _pairs_of(lookups.those_not_in(self._table, its.live_entries()))

    def merged(self, other, *, keep_own=True):
        """Return the own pairs, some with the other's values, and the other's pairs whose keys are not here."""
        its = _operand_of_pairs(other)
        lookups = Lookups(self._table, its)
        rows = [] if keep_own else self._rows_in(its, lookups)
        added = _pairs_of(lookups.those_not_in(self._table, its.live_entries()))
        own = self._own_pairs() if keep_own else [(key, found[0] if found else value) for key, value, found in rows]
        return own + added

    def inverted(self):
        """Return a new table from the values to lists of their keys."""
        pairs = self._own_pairs()
        for _, value in pairs:
            need_key(value)
        table = Table()
        for key, value in pairs:
            keys = table.set_default(value, [])
            keys.append(key)
        return table

    def _own_pairs(self):
        return _pairs_of(self._own_entries())

    def _rows_in(self, its, lookups):
        """Look all entries up, and return for each its key, its value, and a list of the value found, if any."""
        rows = []
        for own in self._table.live_indexes():
            index = lookups.index_in(its, self._table.entry_at(own))
            # Values are read behind the lookup: a key that is asked may replace them.
            key, _, value = self._table.entry_at(own)
            rows.append((key, value, [] if index < 0 else [its.entry_at(index)[2]]))
        return rows


def _operand_of_pairs(thing):
    """Return the table that an operand of a view of pairs stands for."""
    if isinstance(thing, ItemView):
        return thing.shown_table()
    if not isinstance(thing, Table):
        raise BadView("a view of pairs can't be compared with this")
    return thing
