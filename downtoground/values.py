"""What several modules ask of plain values."""


def kept(value):
    """The value as an object keeps it: a list as a tuple, all else just as it is."""
    if isinstance(value, list):
        return tuple(value)
    return value


def is_from(value, least):
    """Whether any value is an integer that is at least so great (True and False are none)."""
    return isinstance(value, int) and not isinstance(value, bool) and value >= least


def is_below(value, end):
    """Whether any value is an integer from 0 on that is less than the end."""
    return is_from(value, 0) and value < end


def is_same(value, model):
    """Whether any value is just what a model of tuples, strings, integers, True and False is."""
    waiting = [(value, model)]
    while waiting:
        part, like = waiting.pop()
        if isinstance(like, tuple):
            if not isinstance(part, tuple) or len(part) != len(like):
                return False
            waiting.extend(list(zip(part, like)))
        elif not _is_same_leaf(part, like):
            return False
    return True


def _is_same_leaf(value, model):
    if isinstance(value, bool) or isinstance(model, bool):
        return isinstance(value, bool) and isinstance(model, bool) and value == model
    if isinstance(model, int):
        return isinstance(value, int) and value == model
    return isinstance(value, str) and value == model


def is_worded(value, word, many):
    """Whether any value is a tuple of so many items, the first one a word."""
    return isinstance(value, tuple) and len(value) == many and isinstance(value[0], str) and value[0] == word


def all_rows(size, many):
    """A list of all rows of so many integers from 0 on below a size, ascending."""
    rows = [()]
    for _ in range(many):
        rows = [row + (number,) for row in rows for number in range(size)]
    return rows
