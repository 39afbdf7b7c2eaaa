"""Layer 6: steps."""

from downtoground.errors import BadStep
from downtoground.meeting import Meeting, is_step, least_constant
from downtoground.stepping import Stepping


def conclusion_of(clauses, step):
    """The conclusion of a step, or None."""
    meeting = _meeting(clauses, step)
    return None if meeting.table is None else meeting.conclusion()


def _meeting(clauses, step):
    if not is_step(clauses, step):
        raise BadStep(step)
    return Meeting(clauses, step)


def fillings_behind(order, clauses, step, filling):
    """The fillings of the one or two clauses of a step behind a filling of its conclusion."""
    return _meeting(clauses, step).fillings(least_constant(order), filling)


def is_needed(order, clauses, step):
    """Whether a step is needed; False where it has no conclusion."""
    meeting = _meeting(clauses, step)
    return meeting.table is not None and meeting.is_needed(order)


def all_steps(order, clauses):
    """All pairs (step, conclusion) of needed steps, ascending."""
    stepping = Stepping(order, clauses)
    found = []
    for i in range(len(clauses)):
        found.extend(stepping.alone(i))
        for j in range(len(clauses)):
            found.extend(stepping.between(i, j))
    return tuple(found)
