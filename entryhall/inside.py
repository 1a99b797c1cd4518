"""The inside of a table, in one object, so that a table can be set back to it."""


def are_same_pairs(entries, others):
    """Tell whether two lists of entries have identical keys and equal values in the same order."""
    if len(entries) != len(others):
        return False
    for (key, _, value), (other_key, _, other_value) in zip(entries, others):
        if not (key == other_key and value == other_value):
            return False
    return True


class Inside:
    """The slots and entries of a table, and what its special classes have written down.

    The holds, the mark and the changes are the table's own.
    """

    def __init__(self, slots, entries):
        self.slots = slots
        # An entry is a tuple (key, code, value); a hole is None.
        self.entries = list(entries)
        self.many = len(self.live_entries())
        # The records of a journaled table, and the pairs that a bounded one has removed.
        self.written = []
        self.pushed = []

    def twin(self):
        """Return another inside that is the same, and that later changes leave alone."""
        other = Inside(self.slots.twin(), self.entries)
        other.written = list(self.written)
        other.pushed = list(self.pushed)
        return other

    def live_entries(self):
        """Return a list of the entries that are not holes."""
        return [entry for entry in self.entries if entry is not None]

    def live_indexes(self):
        """Return a list of the indexes of the entries that are not holes."""
        return [index for index, entry in enumerate(self.entries) if entry is not None]

    def put_in(self, entry):
        """Append an entry, and write its index into the place of its code."""
        self.slots.place(entry[1], len(self.entries))
        self.entries.append(entry)
        self.many += 1

    def take_out(self, index):
        """Make a live entry and its slot holes, and return the entry."""
        entry = self.entries[index]
        self.slots.erase(self.slots.slot_of(entry[1], index))
        self.entries[index] = None
        self.many -= 1
        return entry

    def fill(self, size, entries):
        """Begin anew with this size and these entries, none of them a hole."""
        self.slots.refill(size, [entry[1] for entry in entries])
        self.entries = list(entries)
        self.many = len(entries)
