"""Any values looked at as clauses of an order."""

from downtoground.clauses import YES
from downtoground.leading import is_named
from downtoground.values import is_from, is_same

# Far beyond what callers pass: a value may be made of few tuples, and yet tell a term without measure.
MOST_PARTS = 2000
MOST_DEPTH = 200


def is_plain_clause(order, value):
    """Whether any value is a clause of the order in plain names."""
    if not isinstance(value, tuple):
        return False
    things = {name: arity for name, arity, _ in order.things}
    truths = {name: arity for name, arity, _ in order.truths}
    many = 0
    for literal in value:
        row = _variables_of_literal(things, truths, literal)
        if row is None:
            return False
        for variable in row:
            if variable > many:
                return False
            many = max(many, variable + 1)
    return True


def _variables_of_literal(things, truths, value):
    """A list of the variables of any value as a literal, as they come, or None if it is none."""
    if not isinstance(value, tuple) or len(value) != 3 or not isinstance(value[0], bool):
        return None
    left, right = value[1:]
    if is_same(left, YES):
        return _variables_of_truth(things, truths, right)
    if is_same(right, YES):
        return _variables_of_truth(things, truths, left)
    return _variables_of_things(things, (left, right))


def _variables_of_truth(things, truths, value):
    if is_same(value, YES):
        return []
    return _variables_of_things(things, value[1:]) if is_named(truths, value) else None


def _variables_of_things(things, values):
    """A list of the variables of any values as things, as they come, or None if one is none."""
    found = []
    many = 0
    waiting = [(value, 0) for value in reversed(values)]
    while waiting:
        part, depth = waiting.pop()
        many += 1
        if many > MOST_PARTS or depth > MOST_DEPTH:
            return None
        if is_from(part, 0):
            found.append(part)
        elif is_named(things, part):
            waiting.extend([(inner, depth + 1) for inner in reversed(part[1:])])
        else:
            return None
    return found
