"""Blocks at whose end a table is what it was at their beginning."""

from entryhall.steps import need_steps, run_steps


class Saved:
    """What a table was at the beginning of a block, above what a block around it has saved."""

    def __init__(self, table, below):
        self.inside = table.inside_now()
        self.holds = table.holds_now()
        self.below = below


class Block:
    """What all blocks know: their table, and what it was; an object may stand in blocks within its own block."""

    def __init__(self, table):
        self._table = table
        self._saved = None

    def _save(self):
        self._saved = Saved(self._table, self._saved)


# The end of a block only assigns what was saved before: nothing is called there that could
# fail or ask a key while an exception is on its way.


class Attempt(Block):
    """A block that restores its table if an exception leaves it."""

    def __enter__(self):
        self._save()
        return self._table

    def __exit__(self, kind, value, trace):
        table = self._table
        if kind is not None:
            table._inside = self._saved.inside
            table._holds = self._saved.holds
        self._saved = self._saved.below


class Trial(Block):
    """A block that restores its table in any case."""

    def __enter__(self):
        self._save()
        return self._table

    def __exit__(self, kind, value, trace):
        table = self._table
        table._inside = self._saved.inside
        table._holds = self._saved.holds
        self._saved = self._saved.below


class Holding(Block):
    """A block that holds its table."""

    def __enter__(self):
        self._save()
        self._table.hold()
        return self._table

    def __exit__(self, kind, value, trace):
        table = self._table
        table._holds = self._saved.holds
        self._saved = self._saved.below


def run_all(table, *steps):
    """Perform all steps, or restore the table, and return what run_steps returns."""
    need_steps(steps)
    with Attempt(table):
        return run_steps(table, *steps)


def try_all(table, *steps):
    """Perform steps, restore the table, and return what run_steps returns."""
    need_steps(steps)
    with Trial(table):
        return run_steps(table, *steps)


def run_held(table, *steps):
    """Perform steps while the table is held, and return what run_steps returns."""
    need_steps(steps)
    with Holding(table):
        return run_steps(table, *steps)
