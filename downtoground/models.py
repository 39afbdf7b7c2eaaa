"""Layer 10: rules made by clauses."""

from downtoground.making import Making
from downtoground.orders import below


def rule_at(order, clauses, left):
    """The rule made with a ground term as its left, or None."""
    making = Making(order, clauses)
    return _rule_of(making, making.bank.number_of(left))


def _rule_of(making, number):
    instance = making.rule_of(number)
    return None if instance is None else (making.bank.terms[number], making.bank.terms[instance.right])


def maker_of(order, clauses, left):
    """The index of the clause that makes the rule with a left, and what is put in; None without a rule."""
    making = Making(order, clauses)
    instance = making.rule_of(making.bank.number_of(left))
    if instance is None:
        return None
    terms = making.terms_of(instance)
    return (instance.index, tuple([(variable, terms[variable]) for variable in sorted(terms)]))


def normal_by(order, clauses, term):
    """The normal form of a ground term under all rules made."""
    making = Making(order, clauses)
    return making.bank.terms[making.form_of(making.bank.number_of(term))]


def true_by(order, clauses, clause):
    """Whether a ground clause is true under all rules made."""
    making = Making(order, clauses)
    for sign, left, right in clause:
        forms = [making.form_of(making.bank.number_of(side)) for side in (left, right)]
        if (forms[0] == forms[1]) == sign:
            return True
    return False


def rules_for(order, clauses, lot):
    """Rules made, ascending, that lead each side in a lot to its normal form under all rules made."""
    making = Making(order, clauses)
    sides = [making.bank.number_of(side) for clause in lot for _, left, right in clause for side in (left, right)]
    return tuple([_rule_of(making, number) for number in making.rules_used(sides)])


def all_rules(order, clauses, term):
    """All rules made, ascending, with lefts up to a ground term."""
    making = Making(order, clauses)
    numbers = [making.bank.number_of(lower) for lower in below(order, term) + (term,)]
    return tuple([_rule_of(making, number) for number in numbers if making.rule_of(number) is not None])
