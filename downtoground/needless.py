"""Layer 7: papers of needlessness."""

from downtoground.clauses import is_truth, variables_in
from downtoground.covering import Covering, has_all, is_strict, laying_of, led_on, matched
from downtoground.meeting import part_told
from downtoground.orders import compare
from downtoground.parts import filled
from downtoground.values import is_below, is_same, is_worded


def is_paper(order, clause, lot, paper, strict):
    """Whether any value is a paper, or a strict one, of a clause."""
    while is_worded(paper, "led", 8):
        way = _way_told(order, clause, lot, paper, strict)
        if way is None:
            return False
        clause = led_on(clause, way)
        paper = paper[7]
    if is_worded(paper, "same", 2):
        return _is_same_at(clause, paper[1])
    if is_worded(paper, "both", 3):
        return _are_both_at(clause, paper[1], paper[2])
    if is_worded(paper, "within", 4) and is_below(paper[1], len(lot)):
        return _is_within(lot[paper[1]], clause, paper[2], paper[3])
    return False


def _is_same_at(clause, index):
    return is_below(index, len(clause)) and clause[index][0] and clause[index][1] == clause[index][2]


def _are_both_at(clause, index, other):
    if not is_below(index, len(clause)) or not is_below(other, len(clause)):
        return False
    sign, left, right = clause[index]
    return clause[other][0] != sign and clause[other][1:] in ((left, right), (right, left))


def _is_within(pattern, clause, laying, places):
    """Whether a pattern, put in by any value as its laying, has the literals at any value as places."""
    table = _table_told(pattern, laying)
    if table is None or not isinstance(places, tuple) or len(places) != len(pattern):
        return False
    if not all([is_below(place, len(clause)) for place in places]) or len(set(places)) != len(places):
        return False
    return all([_is_literal_at(literal, clause[place], table) for literal, place in zip(pattern, places)])


def _table_told(clause, laying):
    """The dict of any value as a laying, whose terms may be any values, or None."""
    variables = sorted(variables_in(clause))
    if not isinstance(laying, tuple) or len(laying) != len(variables):
        return None
    table = {}
    for variable, pair in zip(variables, laying):
        if not isinstance(pair, tuple) or len(pair) != 2 or not is_same(pair[0], variable):
            return None
        table[variable] = pair[1]
    return table


def _is_literal_at(literal, other, table):
    """Whether a literal, put in by a dict of any values, is another one, its sides in either order."""
    if literal[0] != other[0] or is_truth(literal) != is_truth(other):
        return False
    straight = _is_put_in(literal[1], other[1], table) and _is_put_in(literal[2], other[2], table)
    return straight or _is_put_in(literal[1], other[2], table) and _is_put_in(literal[2], other[1], table)


def _is_put_in(term, whole, table):
    """Whether a term, put in by a dict of any values, is another one."""
    found = matched(((term, whole),), {})
    # Each variable's term is held against a part of a right clause: so it need not be looked at alone.
    return found is not None and all([is_same(table[variable], found[variable]) for variable in found])


def _way_told(order, clause, lot, paper, strict):
    """The way in which a led that is told, of any values, leads a clause on, or None."""
    _, n, side, laying, a, t, place, _ = paper
    if not is_below(n, len(lot)) or len(lot[n]) != 1 or not lot[n][0][0] or not is_below(side, 2):
        return None
    if not is_below(a, len(clause)) or not is_below(t, 2):
        return None
    literal = clause[a]
    part = part_told(literal[1 + t], place)
    left, right = lot[n][0][1 + side], lot[n][0][2 - side]
    if part is None or isinstance(left, int) and place == () and is_truth(literal):
        return None
    table = matched(((left, part),), {})
    if table is None or not has_all(left, right) or not is_same(laying, laying_of(table)):
        return None
    new = filled(right, table)
    if compare(order, part, new) != "above" or strict and not is_strict(order, literal, t, place, new):
        return None
    return (n, side, laying, a, t, place, new)


def paper_for(order, clause, lot, strict):
    """A paper, or a strict one, of a clause, or None."""
    return Covering(order, lot).paper(clause, strict)


def told_behind(order, clause, lot, paper, filling):
    """The pairs (n, filling of clause n of the lot) that are behind a filling of a clause."""
    ground = dict(filling)
    found = []
    while paper[0] == "led" or paper[0] == "within":
        laying = paper[3] if paper[0] == "led" else paper[2]
        pair = (paper[1], tuple([(variable, filled(term, ground)) for variable, term in laying]))
        if pair not in found:
            found.append(pair)
        if paper[0] == "within":
            break
        paper = paper[-1]
    return tuple(found)
