"""The errors of the package: each keeps its fields just as they are given."""


class SettleError(ValueError):
    """What all errors of the package derive from."""


class BadText(SettleError):
    """A text that is not right, and the column at which it stops being so."""

    def __init__(self, column):
        self.column = column


class BadLine(SettleError):
    """A text of lines that is not right, and the place at which it stops being so."""

    def __init__(self, line, column):
        self.line = line
        self.column = column


class BadNumber(SettleError):
    """A value that is not a number as it is asked for, and what it was told as."""

    def __init__(self, what, number):
        self.what = what
        self.number = number


class BadRow(SettleError):
    """A value that is not a row as it is asked for."""

    def __init__(self, row):
        self.row = row


class BadName(SettleError):
    """A value that is not a name as it is asked for."""

    def __init__(self, name):
        self.name = name


class Unlike(SettleError):
    """A name that stands at two places in unlike ways."""

    def __init__(self, what):
        self.what = what


class Unbound(SettleError):
    """A great name that stands within no all and no some of its own."""

    def __init__(self, name):
        self.name = name


class NoName(SettleError):
    """A value that is no name of a theory."""

    def __init__(self, name):
        self.name = name


class TakenName(SettleError):
    """A name that a theory has already."""

    def __init__(self, name):
        self.name = name


class Needed(SettleError):
    """A sentence that cannot go, and the first finding that stands on it."""

    def __init__(self, name, finding):
        self.name = name
        self.finding = finding


class NothingToUndo(SettleError):
    """No edit stands that could be taken back."""


class NothingToRedo(SettleError):
    """No edit was taken back that could be done again."""


class BadStep(SettleError):
    """A value that is no step for the clauses."""

    def __init__(self, step):
        self.step = step


class TooGreat(SettleError):
    """More would be told than the most that is told."""

    def __init__(self, most):
        self.most = most
