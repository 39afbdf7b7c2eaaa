"""What bars a unifier, walked step by step. Steps and ends may be any values here."""

from downtoground.values import is_below


def equations_told(one, other, steps):
    """The list of the equations that steps tell, or None if they are not right."""
    if not isinstance(steps, tuple):
        return None
    equations = [(one, other)]
    for step in steps:
        equation = _told_by(equations, step)
        if equation is None:
            return None
        equations.append(equation)
    return equations


def is_end(equations, end):
    """Whether any value is an end at which the equations have no unifier."""
    if not _is_worded(end) or len(end) != 2:
        return False
    if end[0] == "unlike":
        return _is_unlike(equations, end[1])
    return end[0] == "ring" and _is_ring(equations, end[1])


def _is_worded(value):
    return isinstance(value, tuple) and len(value) > 0 and isinstance(value[0], str)


def _told_by(equations, step):
    """The equation that any value tells as a step, or None."""
    if not _is_worded(step):
        return None
    if step[0] == "down" and len(step) == 3:
        return _down(equations, step[1], step[2])
    if step[0] == "joined" and len(step) == 5:
        return _joined(equations, step[1:3], step[3:5])
    return None


def _down(equations, number, index):
    if not is_below(number, len(equations)):
        return None
    left, right = equations[number]
    if not _is_headed_alike(left, right) or not is_below(index, len(left) - 1):
        return None
    return (left[index + 1], right[index + 1])


def _joined(equations, one, other):
    variable = _variable_at(equations, one)
    if variable is None or variable != _variable_at(equations, other):
        return None
    return (_beside(equations, one), _beside(equations, other))


def _is_headed_alike(left, right):
    if isinstance(left, int) or isinstance(right, int):
        return False
    return left[0] == right[0] and len(left) == len(right)


def _variable_at(equations, place):
    """The variable at a place (number of an equation, side), or None for any other pair."""
    number, side = place
    if not is_below(number, len(equations)) or not is_below(side, 2):
        return None
    part = equations[number][side]
    return part if isinstance(part, int) else None


def _beside(equations, place):
    number, side = place
    return equations[number][1 - side]


def _is_unlike(equations, number):
    if not is_below(number, len(equations)):
        return False
    left, right = equations[number]
    if isinstance(left, int) or isinstance(right, int):
        return False
    return not _is_headed_alike(left, right)


def _is_ring(equations, row):
    if not isinstance(row, tuple) or len(row) == 0:
        return False
    starts = []
    reached = []
    some_within = False
    for link in row:
        ends = _ends_of(equations, link)
        if ends is None:
            return False
        starts.append(ends[0])
        reached.append(ends[1])
        some_within = some_within or link[2] != ()
    return some_within and reached == starts[1:] + starts[:1]


def _ends_of(equations, link):
    """The variable from which a link of a ring leads and the one to which it does, or None."""
    if not isinstance(link, tuple) or len(link) != 3:
        return None
    start = _variable_at(equations, link[:2])
    if start is None:
        return None
    reached = _part_at(_beside(equations, link[:2]), link[2])
    return (start, reached) if isinstance(reached, int) else None


def _part_at(term, path):
    """The part of a term at any value as a path, or None."""
    if not isinstance(path, tuple):
        return None
    for index in path:
        if isinstance(term, int) or not is_below(index, len(term) - 1):
            return None
        term = term[index + 1]
    return term
