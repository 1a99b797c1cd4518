"""Plain keys, and the codes that are computed for them."""

from entryhall.errors import BadCode, BadKey

CODES = 4294967296

MAX_SIGNS = 40
MAX_ITEMS = 6
MAX_DEPTH = 3

FIRST_SIGN = 32
LAST_SIGN = 126
PERCENT_SIGN = 37

NONE_CODE = 1297303124
TEXT_START = 17
TEXT_FACTOR = 33
TUPLE_START = 41
TUPLE_FACTOR = 1000003


def is_whole(thing):
    """Tell whether a thing is an integer: True and False are not."""
    return isinstance(thing, int) and not isinstance(thing, bool)


def is_between(thing, low, high):
    """Tell whether a thing is an integer from low to high."""
    return is_whole(thing) and low <= thing <= high


def is_count(thing):
    """Tell whether a thing is an integer from 0 on."""
    return is_whole(thing) and thing >= 0


def is_text(thing):
    """Tell whether a thing is a string that may be a key or a label."""
    if not isinstance(thing, str) or len(thing) > MAX_SIGNS:
        return False
    return all([_is_sign(ord(sign)) for sign in thing])


def _is_sign(number):
    return FIRST_SIGN <= number <= LAST_SIGN and number != PERCENT_SIGN


def is_plain(thing):
    """Tell whether a thing is a plain key."""
    return _is_plain_within(thing, MAX_DEPTH)


def _is_plain_within(thing, depth):
    # The depth that is left bounds the recursion, however deep the thing is.
    if isinstance(thing, tuple):
        if depth == 0 or len(thing) > MAX_ITEMS:
            return False
        return all([_is_plain_within(item, depth - 1) for item in thing])
    return thing is None or is_whole(thing) or is_text(thing)


def is_code(thing):
    """Tell whether a thing is a code."""
    return is_between(thing, 0, CODES - 1)


def need_code(thing):
    """Refuse what is no code."""
    if not is_code(thing):
        raise BadCode("this is no code")


def code_of(key):
    """Return the code of a plain key."""
    if not is_plain(key):
        raise BadKey("this is no plain key")
    return _code_of_plain(key)


def _code_of_plain(key):
    if key is None:
        return NONE_CODE
    if isinstance(key, str):
        return _folded(TEXT_START, TEXT_FACTOR, [ord(sign) for sign in key])
    if isinstance(key, tuple):
        codes = [_code_of_plain(item) for item in key]
        return (_folded(TUPLE_START, TUPLE_FACTOR, codes) + len(key)) % CODES
    return key % CODES


def _folded(start, factor, numbers):
    total = start
    for number in numbers:
        total = (factor * total + number) % CODES
    return total
