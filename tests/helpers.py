"""What the tests reckon by themselves, read straight off the document, to hold the program against."""

import functools
import itertools
import random


def is_variable(term):
    return isinstance(term, int)


def filled(term, table):
    """A term with a dict's terms in the places of its variables, all at once."""
    if is_variable(term):
        return table.get(term, term)
    return (term[0],) + tuple(filled(part, table) for part in term[1:])


def variables(term):
    """The list of all variables in a term, as they come from the left, as often as they do."""
    if is_variable(term):
        return [term]
    return [variable for part in term[1:] for variable in variables(part)]


def all_terms(names, leaves, depth):
    """All terms to a depth: leaves are variables, names are pairs (name, arity)."""
    if depth == 0:
        return list(leaves) + [(name,) for name, arity in names if arity == 0]
    lower = all_terms(names, leaves, depth - 1)
    found = list(leaves)
    for name, arity in names:
        found.extend((name,) + row for row in itertools.product(lower, repeat=arity))
    return found


def drawn_term(draw, names, variable_count, size):
    """A drawn term of at most a size; names are pairs (name, arity), one with the arity 0."""
    fitting = [pair for pair in names if pair[1] < size]
    if variable_count and (size == 1 or draw.random() < 0.25):
        return draw.randrange(variable_count)
    name, arity = draw.choice(fitting if size > 1 else [pair for pair in fitting if pair[1] == 0])
    parts = []
    left = size - 1
    for later in range(arity - 1, -1, -1):
        own = draw.randint(1, left - later)
        parts.append(drawn_term(draw, names, variable_count, own))
        left -= own
    return (name,) + tuple(parts)


def drawer(seed):
    return random.Random(seed)


def chain_of(name, count, end):
    """The term in which a name of one argument stands so often around an end."""
    for _ in range(count):
        end = (name, end)
    return end


# Orders by the plain words of the document; names is the row of all triples in their places.

def ranked(order):
    return (("yes", 0, 1),) + order.things + order.truths


def weight(order, term):
    if is_variable(term):
        return 1
    own = [triple[2] for triple in ranked(order) if triple[0] == term[0]]
    return own[0] + sum(weight(order, part) for part in term[1:])


def is_above(order, one, other):
    mine = variables(one)
    theirs = variables(other)
    if any(mine.count(variable) < theirs.count(variable) for variable in theirs):
        return False
    if weight(order, one) != weight(order, other):
        return weight(order, one) > weight(order, other)
    if is_variable(one) or is_variable(other):
        return False
    if one[0] != other[0]:
        names = [triple[0] for triple in ranked(order)]
        return names.index(one[0]) > names.index(other[0])
    for part, other_part in zip(one[1:], other[1:]):
        if part != other_part:
            return is_above(order, part, other_part)
    return False


def compared(order, one, other):
    if one == other:
        return "alike"
    if is_above(order, one, other):
        return "above"
    return "below" if is_above(order, other, one) else None


def ground_terms(order, most):
    """All ground terms of an order to a weight, ascending, listed without counting."""
    things = []
    for _ in range(most):
        found = {(name,) + row: True
                 for name, arity, own in order.things
                 for row in rows_to(order, things, arity, most - own)}
        things = list(found)
    found = [("yes",)] + things
    for name, arity, own in order.truths:
        found.extend((name,) + row for row in rows_to(order, things, arity, most - own))
    light = [term for term in found if weight(order, term) <= most]
    order_key = functools.cmp_to_key(lambda one, other: 1 if is_above(order, one, other) else -1)
    return sorted(light, key=order_key)


def rows_to(order, things, arity, most):
    """All rows of so many of the things that weigh no more than so much in all."""
    if most < 0:
        return []
    if arity == 0:
        return [()]
    return [(first,) + rest
            for first in things
            for rest in rows_to(order, things, arity - 1, most - weight(order, first))]


def struck(ones, others, alike):
    """What is left of two rows when alike items are struck out one for one."""
    rest = list(others)
    own = []
    for item in ones:
        twins = [index for index, other in enumerate(rest) if alike(item, other)]
        if twins:
            rest.pop(twins[0])
        else:
            own.append(item)
    return own, rest


def compared_lots(ones, others, way):
    """Two lots compared as point [17] tells; way compares two items."""
    own, rest = struck(ones, others, lambda one, other: way(one, other) == "alike")
    if not own and not rest:
        return "alike"
    if all(any(way(high, low) == "above" for high in own) for low in rest):
        return "above"
    if all(any(way(high, low) == "above" for high in rest) for low in own):
        return "below"
    return None


def lot(literal):
    sign, left, right = literal
    return [left, right] if sign else [left, left, right, right]


def compared_literals(order, one, other):
    return compared_lots(lot(one), lot(other), lambda s, t: compared(order, s, t))


def compared_clauses(order, one, other):
    return compared_lots(one, other, lambda s, t: compared_literals(order, s, t))


def exchanged(way):
    """What is told of two things, told the other way about."""
    return {"above": "below", "below": "above"}.get(way, way)


# Values that are none of those that the document describes.

def strange_values():
    deep = ()
    for _ in range(100000):
        deep = ("f", deep)
    wide = 0
    for _ in range(200):
        wide = ("f", wide, wide)
    return [None, True, False, 0, 1, -1, 0.5, "", "down", b"down", (), [], {}, set(), object(),
            ((),), ([],), [()], ("ring",), ("unlike",), ("unlike", 0), ("ring", ()), (0, 1), ((0, 1),),
            deep, (deep,), ((0, deep),), wide, ((0, wide),), Awkward(), (Awkward(),), ((0, Awkward()),)]


class Awkward:
    """A value that bears no comparing, no hashing and no asking for its truth."""

    __hash__ = None

    def __eq__(self, other):
        raise ArithmeticError("compared")

    def __bool__(self):
        raise ArithmeticError("asked for its truth")

    def __len__(self):
        raise ArithmeticError("measured")

    def __iter__(self):
        raise ArithmeticError("iterated over")
