"""Pictures: immutable rows of pairs, and the steps that lead from one to another."""

from entryhall.errors import BadPicture, Missing
from entryhall.unruly import is_key


def _is_pair(thing):
    return isinstance(thing, tuple) and len(thing) == 2 and is_key(thing[0])


class Picture:
    """A tuple of pairs with different keys that never changes and never asks a key."""

    def __init__(self, pairs):
        if not isinstance(pairs, (list, tuple)):
            raise BadPicture(0)
        places = {}
        for index, pair in enumerate(pairs):
            if not _is_pair(pair) or pair[0] in places:
                raise BadPicture(index)
            places[pair[0]] = index
        self._pairs = tuple(pairs)
        self._places = places

    @property
    def pairs(self):
        """The tuple of pairs."""
        return self._pairs

    @classmethod
    def of(cls, table):
        """Return the picture of a table."""
        return cls(list(table.each_pair()))

    def first(self, key):
        """Return the index of a key, or -1."""
        # What is no key may equal one, as True equals 1, or be nothing that a dict can look up.
        if is_key(key) and key in self._places:
            return self._places[key]
        return -1

    def __contains__(self, key):
        return self.first(key) >= 0

    def __getitem__(self, key):
        place = self.first(key)
        if place < 0:
            raise Missing(key)
        return self._pairs[place][1]

    def __iter__(self):
        raise TypeError("a picture is not iterated over: take its pairs")

    def __bool__(self):
        return bool(self._pairs)

    def __eq__(self, other):
        if not isinstance(other, Picture):
            return NotImplemented
        return self._pairs == other._pairs

    def __or__(self, other):
        if not isinstance(other, Picture):
            return NotImplemented
        own = [(key, other[key] if key in other else value) for key, value in self._pairs]
        return Picture(own + [pair for pair in other._pairs if pair[0] not in self])

    def __and__(self, other):
        if not isinstance(other, Picture):
            return NotImplemented
        return Picture([pair for pair in self._pairs if pair[0] in other])

    def __sub__(self, other):
        if not isinstance(other, Picture):
            return NotImplemented
        return Picture([pair for pair in self._pairs if pair[0] not in other])


def steps_between(one, other):
    """Return the fewest steps that turn a table with the pairs of one into one with those of other."""
    if not isinstance(one, Picture):
        raise BadPicture(0)
    if not isinstance(other, Picture):
        raise BadPicture(1)
    many = _how_many_stay(one, other)
    staying = Picture(other.pairs[:many])
    drops = [("drop", key) for key, _ in one.pairs if key not in staying]
    changed = [pair for pair in staying.pairs if one.pairs[one.first(pair[0])] != pair]
    puts = [("put", key, value) for key, value in [*changed, *other.pairs[many:]]]
    return drops + puts


def _how_many_stay(one, other):
    many = 0
    last = -1
    for key, _ in other.pairs:
        place = one.first(key)
        if place <= last:
            break
        last = place
        many += 1
    return many
