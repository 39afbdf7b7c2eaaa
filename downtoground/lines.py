"""Lines: clauses, each with the step that tells it from clauses ahead."""

from downtoground.clauses import plain_names
from downtoground.meeting import Meeting, is_step
from downtoground.values import is_below, is_same, is_worded


def input_line(clauses, n):
    """The line of clause n."""
    return (("input", n), plain_names(clauses[n]))


def are_lines(clauses, value):
    """Whether any value is a tuple of lines of some clauses."""
    if not isinstance(value, tuple):
        return False
    row = []
    for line in value:
        if not isinstance(line, tuple) or len(line) != 2 or not _is_line(clauses, row, line):
            return False
        row.append(line[1])
    return True


def _is_line(clauses, row, line):
    """Whether a pair of any values is a line behind those whose clauses are a row."""
    step, clause = line
    if is_worded(step, "input", 2):
        return is_below(step[1], len(clauses)) and is_same(clause, plain_names(clauses[step[1]]))
    if not is_step(row, step):
        return False
    meeting = Meeting(row, step)
    return meeting.table is not None and is_same(clause, meeting.conclusion())


def needs_of(step):
    """The indices of the lines that a line's step needs, in its order."""
    if step[0] == "input":
        return ()
    if step[0] == "put in":
        return (step[1], step[4])
    return (step[1],)


def renumbered(step, places):
    """The step with its clauses told by other indices: places leads from the old to the new ones."""
    if step[0] == "input":
        return step
    step = (step[0], places[step[1]]) + step[2:]
    if step[0] == "put in":
        return step[:4] + (places[step[4]],) + step[5:]
    return step
