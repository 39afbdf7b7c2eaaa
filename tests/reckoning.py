"""What the tests of ground rules, lots and structures reckon by themselves, straight off the document."""

import itertools

from tests.helpers import ground_terms, is_above

YES = ("yes",)


def parts(term, path=()):
    """All pairs (path, part) of a ground term."""
    found = [(path, term)]
    for index, part in enumerate(term[1:]):
        found += parts(part, path + (index,))
    return found


def with_part(term, path, new):
    if not path:
        return new
    index = path[0] + 1
    return term[:index] + (with_part(term[index], path[1:], new),) + term[index + 1:]


def steps(rules, term):
    return [(path, index) for path, part in parts(term) for index, (left, _) in enumerate(rules) if part == left]


def led(rules, term, draw):
    """The normal form at which steps end that are drawn."""
    while True:
        ways = steps(rules, term)
        if not ways:
            return term
        path, index = draw.choice(ways)
        term = with_part(term, path, rules[index][1])


def falling_and_lean(order, rules):
    lefts = [left for left, _ in rules]
    within = [part for left in lefts for path, part in parts(left) if path]
    return (all(is_above(order, left, right) for left, right in rules)
            and len(set(lefts)) == len(lefts) and not set(lefts) & set(within))


def chain_led(equations, term, chain):
    """The term to which a chain leads, each triple of it right."""
    for path, index, way in chain:
        assert isinstance(path, tuple) and way in (True, False)
        first, second = equations[index] if way else equations[index][::-1]
        assert dict(parts(term))[path] == first
        term = with_part(term, path, second)
    return term


def classes(equations, terms):
    """A dict from all parts of terms and equations to one part of their class."""
    inside = {part: True for term in list(terms) + [side for equation in equations for side in equation]
              for _, part in parts(term)}
    head = {part: part for part in inside}

    def unite(one, other):
        old, new = head[one], head[other]
        for part in head:
            if head[part] == old:
                head[part] = new

    for one, other in equations:
        unite(one, other)
    changed = True
    while changed:
        changed = False
        known = {}
        for part in inside:
            key = (part[0],) + tuple(head[argument] for argument in part[1:])
            other = known.setdefault(key, part)
            if head[other] != head[part]:
                unite(other, part)
                changed = True
    return head


def are_led(equations, one, other):
    head = classes(equations, (one, other))
    return head[one] == head[other]


def stands(taken):
    """Whether no not-equation of taken literals is led together by the equations among them."""
    equations = [(left, right) for sign, left, right in taken if sign]
    barred = [(left, right) for sign, left, right in taken if not sign]
    head = classes(equations, [side for pair in barred for side in pair])
    return all(head[left] != head[right] for left, right in barred)


def is_bearable(lot, taken=()):
    """Whether a literal of each clause can be taken so that they stand together."""
    if not lot:
        return True
    return any(stands(taken + (literal,)) and is_bearable(lot[1:], taken + (literal,)) for literal in lot[0])


def walk_tree(lot, tree, taken=()):
    """Walks a tree of cases by the words of [32]; tells how many cases it has."""
    assert isinstance(tree, tuple) and len(tree) == 3
    if tree[0] == "case":
        _, number, trees = tree
        assert isinstance(trees, tuple) and len(trees) == len(lot[number])
        return 1 + sum(walk_tree(lot, below, taken + (literal,)) for below, literal in zip(trees, lot[number]))
    word, number, chain = tree
    assert word == "ring"
    sign, left, right = taken[number]
    assert not sign
    assert chain_led([literal[1:] for literal in taken if literal[0]], left, chain) == right
    return 0


def named_in(tree):
    if tree[0] == "ring":
        return set()
    return {tree[1]}.union(*[named_in(below) for below in tree[2]])


def rows(size, many):
    return list(itertools.product(range(size), repeat=many))


def all_tables(order, size):
    """All dicts of tables of a size."""
    names = []
    ways = []
    for name, arity, _ in order.things:
        names.append(name)
        ways.append(list(itertools.product(range(size), repeat=size ** arity)))
    for name, arity, _ in order.truths:
        names.append(name)
        ways.append(list(itertools.product((False, True), repeat=size ** arity)))
    return [dict(zip(names, row)) for row in itertools.product(*ways)]


def value(size, tables, term, values):
    if isinstance(term, int):
        return values[term]
    if term == YES:
        return True
    row = tuple(value(size, tables, part, values) for part in term[1:])
    return tables[term[0]][rows(size, len(row)).index(row)]


def greatest(clause):
    """How many values a row has for a clause."""
    def deep(term):
        return term if isinstance(term, int) else max([-1] + [deep(part) for part in term[1:]])
    return 1 + max([-1] + [deep(side) for _, left, right in clause for side in (left, right)])


def false_values(size, tables, clause):
    """All rows of values by which no literal of a clause is true."""
    return [row for row in rows(size, greatest(clause))
            if not any((value(size, tables, left, row) == value(size, tables, right, row)) == sign
                       for sign, left, right in clause)]


def light_terms(order, weight):
    """The ground things and the other ground terms of an order to a weight."""
    terms = ground_terms(order, weight)
    names = [name for name, _, _ in order.things]
    return [term for term in terms if term[0] in names], [term for term in terms if term[0] not in names]
