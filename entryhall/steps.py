"""Steps: calls of a table, written down as tuples."""

from entryhall.errors import BadCode, BadKey, BadSize, BadStep, CodeFault, Locked
from entryhall.errors import MatchFault, Missing, TooLarge, Unsettled
from entryhall.unruly import do_step, fits_step


def is_step(thing):
    """Tell whether a thing is a step."""
    return fits_step(thing)


def need_steps(steps):
    """Refuse the first of several things that is no step."""
    for index, step in enumerate(steps):
        if not is_step(step):
            raise BadStep(index)


def perform(table, step):
    """Perform a step on a table."""
    need_steps([step])
    do_step(table, step)


def run_steps(table, *steps):
    """Perform steps in order, and return a list of (live, mark) after each of them."""
    need_steps(steps)
    told = []
    for step in steps:
        do_step(table, step)
        told.append((table.live, table.mark))
    return told


def outcomes(table, *steps):
    """Perform steps in order, and return for each (live, mark), or a word for the error that it raised."""
    need_steps(steps)
    return [_outcome(table, step) for step in steps]


def _outcome(table, step):
    try:
        do_step(table, step)
    except (BadKey, BadCode):
        return "key"
    except BadSize:
        return "size"
    except Missing:
        return "missing"
    except Locked:
        return "locked"
    except TooLarge:
        return "large"
    except (CodeFault, MatchFault, Unsettled):
        return "fault"
    return table.live, table.mark
