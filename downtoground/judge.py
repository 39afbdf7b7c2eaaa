"""Layer 9: the judge. It puts in, compares and makes steps; it searches for nothing."""

from downtoground.lines import are_lines
from downtoground.looking import is_plain_clause
from downtoground.needless import is_paper
from downtoground.steps import all_steps
from downtoground.walking import Walk


def is_refutation(clauses, lines):
    """Whether any value is a refutation of clauses."""
    return are_lines(clauses, lines) and len(lines) > 0 and lines[-1][1] == ()


def grounded(order, clauses, lines):
    """The pairs (n, filling of clause n) that a refutation asks for."""
    return tuple(sorted(Walk(order, clauses, lines).told, key=lambda pair: pair[0]))


def ground_lines(order, clauses, lines):
    """The ground lines of the same walk, each behind those that it needs."""
    return tuple(Walk(order, clauses, lines).ground)


def is_saturation(order, clauses, told):
    """Whether any value is a saturation of clauses by an order."""
    if not isinstance(told, tuple) or len(told) != 3:
        return False
    lot, inputs, steps = told
    if not _are_kept(order, lot) or not _are_papers(order, clauses, lot, inputs, False):
        return False
    return _are_papers(order, [conclusion for _, conclusion in all_steps(order, lot)], lot, steps, True)


def _are_kept(order, value):
    """Whether any value is a tuple of clauses of the order in plain names, none of them ()."""
    if not isinstance(value, tuple):
        return False
    return all([is_plain_clause(order, clause) and len(clause) > 0 for clause in value])


def _are_papers(order, clauses, lot, value, strict):
    """Whether any value is a tuple of papers, one of each clause."""
    if not isinstance(value, tuple) or len(value) != len(clauses):
        return False
    return all([is_paper(order, clause, lot, paper, strict) for clause, paper in zip(clauses, value)])
