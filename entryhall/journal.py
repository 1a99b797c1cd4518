"""A journal, which performs steps on a table and can undo and redo them."""

from entryhall.attempts import run_all
from entryhall.errors import BadStep, ChangedKeys, Empty, Locked
from entryhall.steps import is_step


class Deed:
    """A step that was done, with the inside of the table before and after it."""

    def __init__(self, task, before, after):
        self.task = task
        self.before = before
        self.after = after


class Journal:
    """The steps that it has performed on a table, and those of them that are undone."""

    MAX_STEPS = 20

    def __init__(self, table):
        self._table = table
        self.accept()

    @property
    def done(self):
        """The done steps, the earliest first."""
        return tuple([deed.task for deed in self._done])

    @property
    def undone(self):
        """The undone steps, the one that is redone first being the first."""
        return tuple([deed.task for deed in self._undone])

    def accept(self):
        """Forget all steps, and take the table as it is."""
        self._done = []
        self._undone = []
        self._mark = self._table.mark

    def do(self, step):
        """Perform a step, and forget the undone ones."""
        if not is_step(step):
            raise BadStep(0)
        self._need_own_mark()
        table = self._table
        before = table.inside_now()
        try:
            run_all(table, step)
        finally:
            self._mark = table._mark
        deeds = self._done + [Deed(step, before, table.inside_now())]
        self._done = deeds[-self.MAX_STEPS:]
        self._undone = []

    def undo(self):
        """Restore the table as it was before the last done step, and return the step."""
        self._need_ready(self._done)
        deed = self._done.pop()
        self._undone.insert(0, deed)
        self._set_back(deed.before)
        return deed.task

    def redo(self):
        """Restore the table as it was after the first undone step, and return the step."""
        self._need_ready(self._undone)
        deed = self._undone.pop(0)
        self._done.append(deed)
        self._set_back(deed.after)
        return deed.task

    def _set_back(self, inside):
        self._table.set_back(inside)
        self._mark = self._table.mark

    def _need_ready(self, deeds):
        if len(deeds) == 0:
            raise Empty("there is no such step")
        self._need_own_mark()
        if self._table.is_held:
            raise Locked("the table is held")

    def _need_own_mark(self):
        if self._table.mark != self._mark:
            raise ChangedKeys("the table was changed by others")
