"""Layer 5: lots of ground clauses decided."""

from downtoground.cases import learned, numbered, searched
from downtoground.joining import rules_by
from downtoground.leading import Judge, Leading
from downtoground.rules import chain_end
from downtoground.values import is_below, is_worded, kept


class Rules:
    """Falling lean rules under which each clause of a lot holds."""

    def __init__(self, rules):
        self.rules = kept(rules)


class Closed:
    """A tree of cases of a lot: no structure makes all clauses true."""

    def __init__(self, tree):
        self.tree = kept(tree)


def decide(order, lot):
    """Rules that satisfy a lot of ground clauses, or a tree of cases that bars them."""
    search, numbers = searched(lot)
    if search.tree is None:
        return Rules(rules_by(order, search.closure))
    return Closed(numbered(search.tree, search.clauses, numbers))


def is_decided(order, lot, told):
    """Whether any value is what decide describes."""
    if isinstance(told, Closed):
        return is_closed(lot, told.tree)
    if not isinstance(told, Rules) or not Judge(order).are_rules(told.rules):
        return False
    leading = Leading(told.rules)
    return all([leading.holds(clause) for clause in lot])


def is_closed(lot, tree):
    """Whether any value is a tree of cases of a lot."""
    taken = []
    # What waits is a tree, how many literals are taken around its own one, and that one.
    waiting = [(tree, 0, ())]
    while waiting:
        value, many, literals = waiting.pop()
        del taken[many:]
        taken.extend(literals)
        if _is_case(lot, value):
            clause = lot[value[1]]
            for index in reversed(range(len(clause))):
                waiting.append((value[2][index], len(taken), clause[index:index + 1]))
        elif not _is_ring(taken, value):
            return False
    return True


def _is_case(lot, value):
    """Whether any value names a clause and has as many further values as it has literals."""
    if not is_worded(value, "case", 3) or not is_below(value[1], len(lot)):
        return False
    return isinstance(value[2], tuple) and len(value[2]) == len(lot[value[1]])


def _is_ring(taken, value):
    """Whether any value is a ring that closes where these literals are taken."""
    if not is_worded(value, "ring", 3) or not is_below(value[1], len(taken)):
        return False
    sign, left, right = taken[value[1]]
    if sign:
        return False
    equations = [literal[1:] for literal in taken if literal[0]]
    return chain_end(equations, left, value[2]) == right


def named_by(tree):
    """The numbers of all clauses that a tree of cases names, ascending, each once."""
    named = {}
    waiting = [tree]
    while waiting:
        part = waiting.pop()
        if part[0] == "case":
            named[part[1]] = True
            waiting.extend(part[2])
    return tuple(sorted(named))


def few(order, lot):
    """Numbers of clauses that have a tree, none of which can be left out; None if rules are told."""
    numbers = _barring(lot, list(range(len(lot))))
    if numbers is None:
        return None
    needed = []
    while len(needed) < len(numbers):
        # What could not be left out of more clauses cannot be left out of fewer.
        spare = [number for number in numbers if number not in needed][-1]
        rest = _barring(lot, [number for number in numbers if number != spare])
        if rest is None:
            needed.append(spare)
        else:
            numbers = rest
    return tuple(numbers)


def _barring(lot, numbers):
    """The list of those of some clauses by which all structures are barred; None if there are none."""
    search = learned([lot[number] for number in numbers])
    return None if search.tree is None else search.named_of(numbers)
