"""Slots, the sizes that a row of them can have, and the paths of codes through them."""

from entryhall.codes import is_between, is_count, is_whole, need_code
from entryhall.errors import BadCode, BadSize, NoEntry, TooLarge

EMPTY = -1
HOLE = -2

MIN_SIZE = 8
MAX_SIZE = 4096
SIZES = (8, 16, 32, 64, 128, 256, 512, 1024, 2048, 4096)

PUSH_SHARE = 32

# From the seventh step on a path runs through every slot once,
# so this many slots more than the size contain all of them.
EXTRA = 6


def is_size(thing):
    """Tell whether a thing is a number of slots that a table can have."""
    return is_whole(thing) and thing in SIZES


def _need_size(size):
    if not is_size(size):
        raise BadSize("this is no size")


def _need_number(many, most):
    if not is_between(many, 0, most):
        raise BadSize("this is no integer that is allowed here")


def _need_index(index):
    if not is_count(index):
        raise NoEntry(index)


def capacity(size):
    """Return how many entries fit into this many slots."""
    _need_size(size)
    return 2 * size // 3


def size_for(many):
    """Return the least size into which so many entries fit."""
    _need_number(many, capacity(MAX_SIZE))
    return min([size for size in SIZES if capacity(size) >= many])


def growth(live):
    """Return the size to which a full table with so many live entries grows."""
    _need_number(live, MAX_SIZE // 3)
    return min([size for size in SIZES if size >= 3 * live])


def path(code, size, many):
    """Yield the first slots of the path of a code."""
    need_code(code)
    _need_size(size)
    if not is_count(many):
        raise BadSize("this is no number of slots")
    slot = code % size
    push = code
    for _ in range(many):
        yield slot
        push = push // PUSH_SHARE
        slot = (5 * slot + push + 1) % size


def first_slots(code, size, many):
    """Return a list of the first slots of the path of a code."""
    return list(path(code, size, many))


class SlotTable:
    """A row of slots, into which indexes are placed by codes."""

    def __init__(self, size):
        _need_size(size)
        self._slots = [EMPTY] * size

    @classmethod
    def holding(cls, row):
        """Return slots that hold what a list or tuple holds; its length is a size."""
        slots = cls(len(row))
        slots._slots = list(row)
        return slots

    @property
    def size(self):
        """The number of slots."""
        return len(self._slots)

    def value_at(self, slot):
        """Return what a slot holds."""
        self._need_slot(slot)
        return self._slots[slot]

    def _need_slot(self, slot):
        if not is_between(slot, 0, self.size - 1):
            raise NoEntry(slot)

    def as_tuple(self):
        """Return what all slots hold."""
        return tuple(self._slots)

    def count_of(self, value):
        """Return how many slots hold a value."""
        if not is_whole(value) or value < HOLE:
            raise NoEntry(value)
        return self._slots.count(value)

    def twin(self):
        """Return a new SlotTable with the same slots."""
        return SlotTable.holding(self._slots)

    def place(self, code, index):
        """Write an index into the place of a code, and return the slot."""
        need_code(code)
        _need_index(index)
        slot = self._place_for(code)
        self._slots[slot] = index
        return slot

    def _place_for(self, code):
        reach = self.size + EXTRA
        for slot in path(code, self.size, reach):
            if self._slots[slot] < 0:
                return slot
        raise TooLarge(self.size)

    def erase(self, slot):
        """Make a slot a hole, and return the index that it held."""
        index = self.value_at(slot)
        if index < 0:
            raise NoEntry(slot)
        self._slots[slot] = HOLE
        return index

    def trail(self, code):
        """Return the path of a code up to the first empty slot."""
        reach = self.size + EXTRA
        slots = []
        for slot in path(code, self.size, reach):
            slots.append(slot)
            if self._slots[slot] == EMPTY:
                break
        return slots

    def slot_of(self, code, index):
        """Return the first slot on the trail of a code that holds an index, or None."""
        need_code(code)
        _need_index(index)
        for slot in self.trail(code):
            if self._slots[slot] == index:
                return slot
        return None

    def refill(self, size, codes):
        """Empty the slots, place the indexes of the codes anew, and return their slots."""
        _need_size(size)
        _need_codes(codes)
        if len(codes) > capacity(size):
            raise TooLarge(size)
        self._slots = [EMPTY] * size
        return [self.place(code, index) for index, code in enumerate(codes)]


def _need_codes(codes):
    if not isinstance(codes, (list, tuple)):
        raise BadCode("this is no list or tuple of codes")
    for code in codes:
        need_code(code)
