"""Layouts checked a second time, from the document."""

from entryhall.codes import code_of, is_plain
from entryhall.unruly import Key
from tests.model import CAPACITIES


def row_of(code, row):
    """The slots of a trail, as point 13 has it."""
    slot, push, size = code % len(row), code, len(row)
    slots = []
    while len(slots) < size + 6:
        slots.append(slot)
        if row[slot] == -1:
            break
        push //= 32
        slot = (5 * slot + push + 1) % size
    return slots


def whole(thing):
    return isinstance(thing, int) and not isinstance(thing, bool)


def has_form(layout):
    if not isinstance(layout, tuple) or len(layout) != 4:
        return False
    size, row, entries, mark = layout
    if not whole(size) or not whole(mark) or mark < 0:
        return False
    if not isinstance(row, tuple) or not isinstance(entries, tuple) or not all(whole(held) for held in row):
        return False
    return all(entry is None or (isinstance(entry, tuple) and len(entry) == 3) for entry in entries)


def faults_of(layout):
    if not has_form(layout):
        return [("form",)]
    size, row, entries, _ = layout
    if size not in CAPACITIES:
        return [("size",)]
    if len(row) != size:
        return [("slots",)]
    living = {index for index, entry in enumerate(entries) if entry is not None}
    told = [("room",)] if len(entries) > CAPACITIES[size] else []
    for slot, held in enumerate(row):
        if held not in (-1, -2) and held not in living:
            told.append(("slot", slot))
        elif held >= 0 and held in row[:slot]:
            told.append(("twice", slot))
    for index in sorted(living):
        key, code, _ = entries[index]
        plain, coded = is_plain(key), whole(code) and 0 <= code < 2 ** 32
        if not plain and not isinstance(key, Key):
            told.append(("key", index))
        if not coded or (plain and code_of(key) != code):
            told.append(("code", index))
        if coded and index not in [row[slot] for slot in row_of(code, row)]:
            told.append(("lost", index))
        if plain and any(is_plain(entries[other][0]) and entries[other][0] == key for other in living if other < index):
            told.append(("same", index))
    if row.count(-2) > len(entries) - len(living):
        told.append(("holes",))
    return told
