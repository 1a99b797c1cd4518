"""Lookups of entries of one table in another one, as views make them."""

from entryhall.errors import ChangedKeys
from entryhall.seeking import seek


class Lookups:
    """Lookups during which no table that takes part may change."""

    def __init__(self, *tables):
        self._tables = tables
        self._marks = self._marks_now()

    def _marks_now(self):
        return [table.mark for table in self._tables]

    def index_in(self, table, entry):
        """Return the index of what the lookup of an entry's key finds in a table, or -1."""
        key, code, _ = entry
        _, index, _ = seek(table, key, code)
        if self._marks_now() != self._marks:
            raise ChangedKeys("a table was changed during a lookup")
        return index

    def is_in(self, table, entry):
        """Tell whether an entry is in a table."""
        return self.index_in(table, entry) >= 0

    def those_in(self, table, entries):
        """Return the entries that are in a table."""
        return [entry for entry in entries if self.is_in(table, entry)]

    def those_not_in(self, table, entries):
        """Return the entries that are not in a table."""
        return [entry for entry in entries if not self.is_in(table, entry)]

    def are_all_in(self, table, entries):
        """Tell whether all of the entries are in a table, up to the first that is not."""
        for entry in entries:
            if not self.is_in(table, entry):
                return False
        return True

    def are_none_in(self, table, entries):
        """Tell whether none of the entries is in a table, up to the first that is."""
        for entry in entries:
            if self.is_in(table, entry):
                return False
        return True

    def is_in_all(self, tables, entry):
        """Tell whether an entry is in all of several tables, up to the first that lacks it."""
        for table in tables:
            if not self.is_in(table, entry):
                return False
        return True

    def is_in_none(self, tables, entry):
        """Tell whether an entry is in none of several tables, up to the first that has it."""
        for table in tables:
            if self.is_in(table, entry):
                return False
        return True
