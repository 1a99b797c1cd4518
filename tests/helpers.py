"""What several files of tests use."""

import unittest

# Things of other kinds, where an integer is wanted; also as sizes, codes, indexes and slots.
NO_INTEGERS = [True, False, None, 1.0, 8.0, "8", "", b"8", (8,), (), [8], [], {}, object(), int]


class Row(list):
    """A list of a class of its own."""


def look(table):
    """Everything that a table shows."""
    return (
        table.layout(),
        list(table.each_pair()),
        (table.live, table.filled, table.size, table.capacity, table.room),
        (table.mark, table.changes, table.is_held),
    )


class Case(unittest.TestCase):
    def refused(self, error, call, *given, **named):
        """Expect exactly this error, and return its one attribute."""
        with self.assertRaises(error) as caught:
            call(*given, **named)
        self.assertIs(type(caught.exception), error)
        (told,) = vars(caught.exception).values()
        return told

    def unchanged(self, table, error, call, *given, **named):
        """The same, of a call that leaves the table as it is."""
        before = look(table)
        told = self.refused(error, call, *given, **named)
        self.assertEqual(look(table), before)
        return told
