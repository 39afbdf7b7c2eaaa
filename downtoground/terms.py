"""Layer 1: terms, putting in, matching, unifying."""

from downtoground.barring import equations_told, is_end
from downtoground.parts import filled, parts_of, places_of
from downtoground.unifying import Reckoning
from downtoground.values import is_from, kept


def size(term):
    """How many variables and names stand in a term, each as often as it does."""
    return len(parts_of(term))


def variables_of(term):
    """The variables in a term, ascending, each once."""
    return tuple(sorted({part for part in parts_of(term) if isinstance(part, int)}))


def paths_of(term):
    """All paths of a term, each ahead of those within it."""
    return tuple(path for path, _ in places_of(term))


def at(term, path):
    """The part of a term at a path of it."""
    for index in path:
        term = term[index + 1]
    return term


def put_at(term, path, new):
    """The term with a new part at a path of it."""
    around = []
    for index in path:
        around.append((term, index + 1))
        term = term[index + 1]
    # From within outwards, as a term may be deeper than calls can go.
    for whole, index in reversed(around):
        new = whole[:index] + (new,) + whole[index + 1:]
    return new


def put(term, pairs):
    """The term with the terms of a substitution in the places of its variables, all at once."""
    return filled(term, dict(pairs))


def behind(one, other):
    """The one substitution that does what one does, and then what the other does."""
    table = dict(other)
    for variable, term in one:
        table[variable] = put(term, other)
    return _substitution(table)


def _substitution(table):
    """The substitution of a dict from variables to terms: those that stay are left out."""
    return tuple((variable, table[variable]) for variable in sorted(table) if table[variable] != variable)


def renamed(term, first):
    """The term with its variables, in the order in which they come, called first, first + 1, .."""
    table = {}
    for part in parts_of(term):
        if isinstance(part, int) and part not in table:
            table[part] = first + len(table)
    return filled(term, table)


def match(pattern, term):
    """The substitution of the pattern's variables that makes it the term, or None."""
    table = {}
    waiting = [(pattern, term)]
    while waiting:
        one, other = waiting.pop()
        if isinstance(one, int):
            if table.setdefault(one, other) != other:
                return None
        elif _are_headed_alike(one, other):
            waiting.extend(list(zip(one[1:], other[1:])))
        else:
            return None
    return _substitution(table)


def _are_headed_alike(one, other):
    """Whether a tuple term and any value are tuples of one name and one number of arguments."""
    if not isinstance(other, tuple) or len(one) != len(other):
        return False
    return isinstance(other[0], str) and one[0] == other[0]


class Unifier:
    """A most general substitution that makes two terms the same."""

    def __init__(self, pairs):
        self.pairs = kept(pairs)


class Apart:
    """Steps from two terms down to equations that nothing can make the same."""

    def __init__(self, steps, end):
        self.steps = kept(steps)
        self.end = kept(end)


def unify(one, other):
    """The Unifier of two terms, or what keeps them Apart."""
    work = Reckoning(one, other)
    waiting = [] if one == other else [0]
    while waiting:
        number = work.led_on(waiting.pop())
        if number is None:
            continue
        left, right = work.equations[number]
        if isinstance(left, int) or isinstance(right, int):
            row = work.bind(number)
            if row is not None:
                return Apart(work.steps, ("ring", row))
        elif _are_headed_alike(left, right):
            waiting.extend(work.downs(number))
        else:
            return Apart(work.steps, ("unlike", number))
    return Unifier(work.substitution())


def is_unify(one, other, told):
    """Whether any value is what unify describes."""
    if isinstance(told, Unifier):
        return _is_unifier(one, other, told.pairs)
    if isinstance(told, Apart):
        equations = equations_told(one, other, told.steps)
        return equations is not None and is_end(equations, told.end)
    return False


def _is_unifier(one, other, pairs):
    """Whether any value is the pairs of a right Unifier.

    Of two right ones each is the other one with its variables exchanged. So what is told is held
    against a right one first: this bounds its size and depth ahead of all that goes into it.
    """
    own = unify(one, other)
    if isinstance(own, Apart):
        return False
    variables = variables_of(one) + variables_of(other)
    models = {variable: put(variable, own.pairs) for variable in variables}
    if not _are_pairs_like(pairs, models):
        return False
    within = all(variable in models for _, term in pairs for variable in variables_of(term))
    alike = put(one, pairs) == put(other, pairs) and behind(pairs, pairs) == pairs
    return within and alike and behind(pairs, own.pairs) == own.pairs


def _are_pairs_like(pairs, models):
    """Whether any value is a substitution whose terms have the forms of those in a dict."""
    if not isinstance(pairs, tuple):
        return False
    least = 0
    for pair in pairs:
        if not isinstance(pair, tuple) or len(pair) != 2:
            return False
        variable, term = pair
        if not is_from(variable, least) or variable not in models:
            return False
        if not _is_like(term, models[variable]) or term == variable:
            return False
        least = variable + 1
    return True


def _is_like(value, model):
    """Whether any value is a term that has the names of a term, and variables where it has some."""
    waiting = [(value, model)]
    while waiting:
        part, like = waiting.pop()
        if isinstance(like, int):
            if not is_from(part, 0):
                return False
        elif _are_headed_alike(like, part):
            waiting.extend(list(zip(part[1:], like[1:])))
        else:
            return False
    return True
