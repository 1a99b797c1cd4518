"""Key objects that count, fail, lie or change a table, and how keys are asked."""

from entryhall.codes import code_of, is_plain, is_text, need_code
from entryhall.errors import BadCode, BadKey, BadStep, CodeFault, MatchFault

STEP_ITEMS = {"put": 3, "drop": 2, "clear": 1, "compact": 1, "shrink": 1, "reserve": 2}


def fits_step(thing):
    """Tell whether a thing is a step: what its key, value or number is does not matter."""
    if not isinstance(thing, tuple) or len(thing) == 0 or not isinstance(thing[0], str):
        return False
    return STEP_ITEMS.get(thing[0], 0) == len(thing)


def do_step(table, step):
    """Perform a step on a table, by the method that the step names."""
    word = step[0]
    if word == "put":
        table.put(step[1], step[2])
    elif word == "drop":
        table.drop(step[1])
    elif word == "clear":
        table.clear()
    elif word == "compact":
        table.compact()
    elif word == "shrink":
        table.shrink()
    else:
        table.reserve(step[1])


def _need_label(label):
    if not is_text(label):
        raise BadKey("this is no label")


def _need_filled(items):
    if not isinstance(items, tuple) or len(items) == 0:
        raise BadCode("this is no tuple with at least one item")


def _need_steps(steps):
    if not isinstance(steps, tuple):
        raise BadStep(0)
    for index, step in enumerate(steps):
        if not fits_step(step):
            raise BadStep(index)


def _name_of(key):
    return key.label if isinstance(key, Key) else key


class Key:
    """A key object with a label and a code; it matches key objects with an equal label."""

    def __init__(self, label, code):
        _need_label(label)
        need_code(code)
        self.label = label
        self._code = code

    def code(self):
        """Return the code of this key."""
        return self._code

    def matches(self, other):
        """Answer whether this key matches another one."""
        return isinstance(other, Key) and other.label == self.label


class TracedKey(Key):
    """A key object that notes each call in a trace."""

    def __init__(self, label, code, trace):
        super().__init__(label, code)
        self._trace = trace

    def code(self):
        """Note the call, and return the code of this key."""
        self._trace.note(("code", self.label))
        return super().code()

    def matches(self, other):
        """Note the call, and answer whether this key matches another one."""
        self._trace.note(("matches", self.label, _name_of(other)))
        return super().matches(other)


class FailingKey(Key):
    """A key object of which one call of each method may fail."""

    def __init__(self, label, code, code_at=0, match_at=0):
        super().__init__(label, code)
        self._code_at = code_at
        self._match_at = match_at
        self._code_calls = 0
        self._match_calls = 0

    def code(self):
        """Return the code of this key, or raise CodeFault."""
        self._code_calls += 1
        if self._code_calls == self._code_at:
            raise CodeFault(self.label)
        return super().code()

    def matches(self, other):
        """Answer whether this key matches another one, or raise MatchFault."""
        self._match_calls += 1
        if self._match_calls == self._match_at:
            raise MatchFault(self.label)
        return super().matches(other)


class TracedFailingKey(TracedKey, FailingKey):
    """A key object that notes each call, and then may fail."""

    def __init__(self, label, code, trace, code_at=0, match_at=0):
        super().__init__(label, code, trace)
        self._code_at = code_at
        self._match_at = match_at

    def code(self):
        """Note the call, and return the code of this key, or raise CodeFault."""
        return super().code()

    def matches(self, other):
        """Note the call, and answer as a Key does, or raise MatchFault."""
        return super().matches(other)


class DriftingKey(Key):
    """A key object whose code changes from call to call."""

    def __init__(self, label, codes):
        # The label comes before the codes, also where both are wrong.
        _need_label(label)
        _need_filled(codes)
        for code in codes:
            need_code(code)
        super().__init__(label, codes[0])
        self._codes = codes
        self._turn = 0

    def code(self):
        """Return the next one of the codes."""
        code = self._codes[self._turn % len(self._codes)]
        self._turn += 1
        return code

    def matches(self, other):
        """Answer whether this key matches another one."""
        return super().matches(other)


class LopsidedKey(Key):
    """A key object that gives fixed answers, whatever it is asked about."""

    def __init__(self, label, code, answers):
        super().__init__(label, code)
        _need_filled(answers)
        self._answers = answers
        self._turn = 0

    def code(self):
        """Return the code of this key."""
        return super().code()

    def matches(self, other):
        """Return the next one of the answers."""
        answer = self._answers[self._turn % len(self._answers)]
        self._turn += 1
        return answer


class MeddlingKey(Key):
    """A key object that changes a table when it is asked."""

    def __init__(self, label, code, table, steps, code_steps=()):
        super().__init__(label, code)
        _need_steps(steps)
        _need_steps(code_steps)
        self._table = table
        self._steps = list(steps)
        self._code_steps = list(code_steps)

    # In both methods a step is taken away before it is performed: one that raises is used up,
    # and where the table asks this key again meanwhile, that call finds the step behind it.

    def code(self):
        """Perform the next code step, if there is one, and return the code of this key."""
        if self._code_steps:
            step = self._code_steps.pop(0)
            do_step(self._table, step)
        return super().code()

    def matches(self, other):
        """Perform the next step, if there is one, and answer as a Key does."""
        if self._steps:
            step = self._steps.pop(0)
            do_step(self._table, step)
        return super().matches(other)


class Trace:
    """A record of events, in the order in which they were noted."""

    def __init__(self):
        self._events = []

    def events(self):
        """Return a list of the events noted so far."""
        return list(self._events)

    def note(self, event):
        """Add an event."""
        self._events.append(event)


def is_key(thing):
    """Tell whether a thing is a key, plain or an object."""
    return isinstance(thing, Key) or is_plain(thing)


def need_key(key):
    """Refuse what is no key."""
    if not is_key(key):
        raise BadKey("this is no key")


def asked_code(key):
    """Return the code of a key, asking a key object once."""
    if not isinstance(key, Key):
        return code_of(key)
    code = key.code()
    need_code(code)
    return code


def are_asked(stored, given):
    """Ask two keys, the stored one first, and tell whether they match."""
    if isinstance(stored, Key):
        answer = stored.matches(given)
    elif isinstance(given, Key):
        answer = given.matches(stored)
    else:
        return False
    # An answer that only counts as true, such as 1, is no match.
    return answer is True
