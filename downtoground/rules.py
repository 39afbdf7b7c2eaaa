"""Layer 3: ground rules, chains, and joined equations."""

from downtoground.closure import Closure
from downtoground.joining import rules_by
from downtoground.leading import Judge, Leading
from downtoground.parts import places_of
from downtoground.terms import put_at
from downtoground.values import is_below, kept


def are_rules(order, value):
    """Whether any value is a tuple of pairs of ground terms that fall and are lean."""
    return Judge(order).are_rules(value)


def steps_from(rules, term):
    """All pairs (path, index) at which a rule leads on from a ground term, ascending."""
    found = []
    for path, part in places_of(term):
        for index, (left, _) in enumerate(rules):
            if part == left:
                found.append((path, index))
    return tuple(found)


def stepped(rules, term, path, index):
    """The term to which a step leads."""
    return put_at(term, path, rules[index][1])


def normal(rules, term):
    """The normal form of a ground term under falling lean rules."""
    return Leading(rules).normal(term)


def holds(rules, clause):
    """Whether some literal of a ground clause holds under falling lean rules."""
    return Leading(rules).holds(clause)


def chain_end(equations, term, chain):
    """The term to which any value leads as a chain from a term; None if it is none that fits."""
    if not isinstance(chain, tuple):
        return None
    for triple in chain:
        if not isinstance(triple, tuple) or len(triple) != 3:
            return None
        path, index, way = triple
        if not is_below(index, len(equations)) or not isinstance(way, bool):
            return None
        first, second = equations[index]
        if _part_at(term, path) != (first if way else second):
            return None
        term = put_at(term, path, second if way else first)
    return term


def _part_at(term, path):
    """The part of a ground term at any value as a path; None if it is no path of it."""
    if not isinstance(path, tuple):
        return None
    for index in path:
        if not is_below(index, len(term) - 1):
            return None
        term = term[index + 1]
    return term


class Joined:
    """The rules of joined equations, and a chain for each of them."""

    def __init__(self, rules, chains):
        self.rules = kept(rules)
        self.chains = kept(chains)


def joined(order, equations):
    """The rules under which just what the equations lead together has one normal form."""
    closure = _closure_of(equations)
    rules = rules_by(order, closure)
    return Joined(rules, tuple(_chain(closure, left, right) for left, right in rules))


def _closure_of(equations):
    closure = Closure()
    for index, (left, right) in enumerate(equations):
        closure.unite(closure.number_of(left), closure.number_of(right), index)
    return closure


def _chain(closure, one, other):
    """A chain from one term to another one of its class."""
    return tuple(closure.chain_between(closure.number_of(one), closure.number_of(other)))


class Chained:
    """A chain that leads two terms together."""

    def __init__(self, chain):
        self.chain = kept(chain)


class Parted:
    """Rules under which two terms have unlike normal forms."""

    def __init__(self, rules):
        self.rules = kept(rules)


def led_together(order, equations, s, t):
    """A chain of the equations from s to t, or rules that keep them apart."""
    closure = _closure_of(equations)
    if closure.are_one(closure.number_of(s), closure.number_of(t)):
        return Chained(_chain(closure, s, t))
    return Parted(rules_by(order, closure))


def is_led(order, equations, s, t, told):
    """Whether any value is what led_together describes."""
    if isinstance(told, Chained):
        return chain_end(equations, s, told.chain) == t
    if not isinstance(told, Parted) or not are_rules(order, told.rules):
        return False
    leading = Leading(told.rules)
    return all([leading.are_one(left, right) for left, right in equations]) and not leading.are_one(s, t)
