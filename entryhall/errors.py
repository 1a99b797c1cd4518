"""The errors of the package, in three families.

The families are there to be caught; only the classes below them are raised.
"""


class TableError(ValueError):
    """What a caller gave is not as it must be."""


class BadKey(TableError):
    """What was given is no key."""

    def __init__(self, reason):
        self.reason = reason


class BadCode(TableError):
    """What was given, or what a key returned, is no code."""

    def __init__(self, reason):
        self.reason = reason


class BadSize(TableError):
    """What was given is no size, or no number that is allowed here."""

    def __init__(self, reason):
        self.reason = reason


class BadStep(TableError):
    """The step at this index is none."""

    def __init__(self, index):
        self.index = index


class BadPicture(TableError):
    """The pair at this index does not fit a picture, or the argument is no picture."""

    def __init__(self, index):
        self.index = index


class BadPairs(TableError):
    """The operand at this index is no source of pairs."""

    def __init__(self, index):
        self.index = index


class BadView(TableError):
    """What was given is nothing that a view or a cursor can go with."""

    def __init__(self, reason):
        self.reason = reason


class BadLayout(TableError):
    """The layout is not sound; this is its first fault."""

    def __init__(self, fault):
        self.fault = fault


class Absent(LookupError):
    """What was looked for is not there."""


class Missing(Absent):
    """There is no entry with this key."""

    def __init__(self, key):
        self.key = key


class Empty(Absent):
    """There is nothing left to give."""

    def __init__(self, reason):
        self.reason = reason


class NoEntry(Absent):
    """There is nothing at this index."""

    def __init__(self, index):
        self.index = index


class Fault(RuntimeError):
    """A call could not be carried out."""


class CodeFault(Fault):
    """The key object with this label failed to give its code."""

    def __init__(self, label):
        self.label = label


class MatchFault(Fault):
    """The key object with this label failed to answer."""

    def __init__(self, label):
        self.label = label


class Unsettled(Fault):
    """A lookup started over more often than this limit."""

    def __init__(self, limit):
        self.limit = limit


class Locked(Fault):
    """The table is held and must not change."""

    def __init__(self, reason):
        self.reason = reason


class NotHeld(Fault):
    """There is no hold to end."""

    def __init__(self, reason):
        self.reason = reason


class ChangedSize(Fault):
    """The table no longer has the expected number of live entries."""

    def __init__(self, expected):
        self.expected = expected


class ChangedKeys(Fault):
    """The table was changed in the meantime."""

    def __init__(self, reason):
        self.reason = reason


class TooLarge(Fault):
    """There would be more than this limit allows."""

    def __init__(self, limit):
        self.limit = limit
