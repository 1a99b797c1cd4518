"""Lookups: which slots of a table they look at, and whom they ask."""

from entryhall.errors import Unsettled
from entryhall.unruly import Key, are_asked, asked_code, need_key


def seek(table, key, code):
    """Look a key up by a code, and return the result (slot, index, looked)."""
    need_key(key)
    for _ in range(table.MAX_RESTARTS + 1):
        result = _attempt(table, key, code)
        if result is not None:
            return result
    raise Unsettled(table.MAX_RESTARTS)


def seek_key(table, key):
    """Look a key up by its own code, and return the result (slot, index, looked)."""
    return seek(table, key, asked_code(key))


def _attempt(table, key, code):
    """Return the result of one attempt, or None if the table was changed in the middle of it."""
    mark = table.mark
    # This row stays true to the end: an attempt ends where the table is changed.
    row = trail(table, code)
    for looked, (slot, index) in enumerate(row, start=1):
        if index < 0:
            continue
        stored, stored_code, _ = table.entry_at(index)
        if stored == key:
            return slot, index, looked
        if stored_code == code:
            matched = are_asked(stored, key)
            if table.mark != mark:
                return None
            if matched:
                return slot, index, looked
    return _first_free(row), -1, len(row)


def _first_free(row):
    free = [slot for slot, content in row if content < 0]
    return free[0]


def trail(table, code):
    """Return a list of pairs (slot, content) for the slots on the trail of a code."""
    return [(slot, table.slot_at(slot)) for slot in table.trail_slots(code)]


def place_for(table, code):
    """Return the first slot on the trail of a code that is empty or a hole."""
    return _first_free(trail(table, code))


def asked_at(table, key, code):
    """Return the indexes of the entries that a lookup would ask about if no two keys matched."""
    need_key(key)
    asked = []
    for _, index in trail(table, code):
        if index < 0:
            continue
        stored, stored_code, _ = table.entry_at(index)
        if stored == key:
            break
        if stored_code == code and (isinstance(stored, Key) or isinstance(key, Key)):
            asked.append(index)
    return asked
