"""Layouts of tables: whether they are sound, and what calls make of them."""

from entryhall.codes import code_of, is_code, is_count, is_plain, is_whole
from entryhall.errors import BadKey, BadLayout, BadSize
from entryhall.inside import Inside
from entryhall.slots import EMPTY, HOLE, SlotTable, capacity, is_size
from entryhall.table import Table
from entryhall.unruly import Key, is_key


def faults(layout):
    """Return a list of all faults of a layout, which may be anything."""
    if not _has_form(layout):
        return [("form",)]
    size, row, entries, _ = layout
    if not is_size(size):
        return [("size",)]
    if len(row) != size:
        return [("slots",)]
    found = [("room",)] if len(entries) > capacity(size) else []
    found = found + _faults_of_slots(row, entries) + _faults_of_entries(row, entries)
    holes = [entry for entry in entries if entry is None]
    return found + ([("holes",)] if row.count(HOLE) > len(holes) else [])


def _has_form(layout):
    if not isinstance(layout, tuple) or len(layout) != 4:
        return False
    size, row, entries, mark = layout
    if not is_whole(size) or not isinstance(row, tuple) or not isinstance(entries, tuple):
        return False
    if not all([is_whole(held) for held in row]):
        return False
    return all([_may_be_entry(entry) for entry in entries]) and is_count(mark)


def _may_be_entry(thing):
    return thing is None or isinstance(thing, tuple) and len(thing) == 3


def _faults_of_slots(row, entries):
    found = []
    seen = {}
    for slot, held in enumerate(row):
        if held in (EMPTY, HOLE):
            continue
        if held < 0 or held >= len(entries) or entries[held] is None:
            found.append(("slot", slot))
        elif held in seen:
            found.append(("twice", slot))
        seen[held] = True
    return found


def _faults_of_entries(row, entries):
    slots = SlotTable.holding(row)
    found = []
    seen = {}
    for index, entry in enumerate(entries):
        if entry is None:
            continue
        key, code, _ = entry
        if not is_key(key):
            found.append(("key", index))
        if not is_code(code) or is_plain(key) and code != code_of(key):
            found.append(("code", index))
        if is_code(code) and slots.slot_of(code, index) is None:
            found.append(("lost", index))
        if is_plain(key):
            if key in seen:
                found.append(("same", index))
            seen[key] = True
    return found


def is_sound(layout):
    """Tell whether a layout has no fault."""
    return len(faults(layout)) == 0


def _need_sound(layout):
    found = faults(layout)
    if found:
        raise BadLayout(found[0])


def looks(layout):
    """Return for each entry how many slots lead to it on the trail of its code, or None for a hole."""
    _need_sound(layout)
    slots = SlotTable.holding(layout[1])
    return [_looks_at(slots, index, entry) for index, entry in enumerate(layout[2])]


def _looks_at(slots, index, entry):
    if entry is None:
        return None
    return slots.trail(entry[1]).index(slots.slot_of(entry[1], index)) + 1


def longest_trail(layout):
    """Return the greatest number of slots that lead to an entry, or 0."""
    return max([many for many in looks(layout) if many is not None], default=0)


def rebuilt(layout, size):
    """Return the layout after a rebuild to a size."""
    _need_sound(layout)
    entries = [entry for entry in layout[2] if entry is not None]
    if not is_size(size) or capacity(size) < len(entries):
        raise BadSize("this is no size that the entries fit into")
    slots = SlotTable(size)
    slots.refill(size, [entry[1] for entry in entries])
    return size, slots.as_tuple(), tuple(entries), layout[3] + 1


def after_put(layout, key, value):
    """Return the layout after a put of a plain key that asks no key object."""
    table = _table_for(layout, key)
    table.put(key, value)
    return _layout_after(layout, table)


def after_drop(layout, key):
    """Return the layout after a drop of a plain key that asks no key object."""
    table = _table_for(layout, key)
    table.drop(key)
    return _layout_after(layout, table)


def _table_for(layout, key):
    """Return a table with this layout, but with a mark of its own."""
    _need_sound(layout)
    code = code_of(key)
    for entry in layout[2]:
        if entry is not None and entry[1] == code and isinstance(entry[0], Key):
            raise BadKey("a key object has the same code")
    table = Table()
    table.set_back(Inside(SlotTable.holding(layout[1]), layout[2]))
    return table


def _layout_after(layout, table):
    size, row, entries, mark = table.layout()
    # Taking the layout over has counted one mark.
    return size, row, entries, layout[3] + mark - 1
