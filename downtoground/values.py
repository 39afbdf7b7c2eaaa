"""What several modules ask of plain values."""


def kept(value):
    """The value as an object keeps it: a list as a tuple, all else just as it is."""
    if isinstance(value, list):
        return tuple(value)
    return value


def is_from(value, least):
    """Whether any value is an integer that is at least so great (True and False are none)."""
    return isinstance(value, int) and not isinstance(value, bool) and value >= least


def is_below(value, end):
    """Whether any value is an integer from 0 on that is less than the end."""
    return is_from(value, 0) and value < end
