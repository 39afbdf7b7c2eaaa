"""What the tests of steps, papers and loops reckon by themselves, straight off the document."""

import itertools

from downtoground.orders import Order
from tests.helpers import compared, compared_literals, drawn_term, filled, variables

YES = ("yes",)
AT_LEAST = ("above", "alike")
SMALL = Order((("a", 0, 1), ("f", 1, 1), ("b", 0, 1)), (("p", 1, 1), ("q", 0, 1)))
WIDE = Order((("g", 2, 1), ("b", 0, 3), ("f", 1, 2), ("a", 0, 2)), (("q", 0, 4), ("r", 2, 1)))


def pairs_of(order):
    return [(name, arity) for name, arity, _ in order.things]


def drawn_literal(draw, order, variable_count, size_to, truths=0.4):
    if order.truths and draw.random() < truths:
        name, arity, _ = draw.choice(order.truths)
        atom = (name,) + tuple(drawn_term(draw, pairs_of(order), variable_count, draw.randint(1, size_to))
                               for _ in range(arity))
        if draw.random() < 0.08:
            atom = YES
        left, right = draw.choice(((atom, YES), (atom, YES), (atom, YES), (YES, atom)))
    else:
        left, right = (drawn_term(draw, pairs_of(order), variable_count, draw.randint(1, size_to)) for _ in range(2))
    return (draw.random() < 0.6, left, right)


def drawn_clause(draw, order, most=3, variable_count=3, size_to=4):
    """A drawn clause in plain names, with a literal doubled or turned now and then."""
    clause = [drawn_literal(draw, order, variable_count, size_to) for _ in range(draw.randint(1, most))]
    if len(clause) > 1 and draw.random() < 0.3:
        sign, left, right = clause[0]
        clause[-1] = draw.choice(((sign, left, right), (sign, right, left), (not sign, left, right)))
    return plain(tuple(clause))


def things_light(order, weight):
    """All ground things of an order to a weight, each weight being at least 1."""
    found = []
    for _ in range(weight):
        found = [(name,) + row for name, arity, _ in order.things for row in itertools.product(found, repeat=arity)]
        found = [term for term in found if sum(weight_in(order, part) for part in names_in(term)) <= weight]
    return found


def names_in(term):
    return [term[0]] + [name for part in term[1:] for name in names_in(part)]


def weight_in(order, name):
    return [weight for other, _, weight in order.things if other == name][0]


def parts(term, path=()):
    """All pairs (path, part) of a term."""
    found = [(path, term)]
    if isinstance(term, tuple):
        for index, part in enumerate(term[1:]):
            found += parts(part, path + (index,))
    return found


def with_part(term, path, new):
    if not path:
        return new
    index = path[0] + 1
    return term[:index] + (with_part(term[index], path[1:], new),) + term[index + 1:]


def clause_variables(clause):
    """The list of the variables of a clause in the order in which they first come, each once."""
    found = []
    for _, left, right in clause:
        for variable in variables(left) + variables(right):
            if variable not in found:
                found.append(variable)
    return found


def put_all(clause, table):
    return tuple((sign, filled(left, table), filled(right, table)) for sign, left, right in clause)


def plain(clause):
    return put_all(clause, {variable: number for number, variable in enumerate(clause_variables(clause))})


def unified(one, other):
    """The dict of a most general unifier, or None."""
    table = {}
    equations = [(one, other)]
    while equations:
        left, right = (filled_through(side, table) for side in equations.pop())
        if left == right:
            continue
        if not isinstance(left, int):
            left, right = right, left
        if isinstance(left, int):
            if left in variables(right):
                return None
            table[left] = right
        elif left[0] != right[0] or len(left) != len(right):
            return None
        else:
            equations += list(zip(left[1:], right[1:]))
    return {variable: filled_through(variable, table) for variable in table}


def filled_through(term, table):
    while True:
        new = filled(term, table)
        if new == term:
            return term
        term = new


def matched(pattern, term, table):
    """The dict, widened, that makes a pattern a term, or None."""
    if isinstance(pattern, int):
        if table.get(pattern, term) != term:
            return None
        return {**table, pattern: term}
    if isinstance(term, int) or pattern[0] != term[0] or len(pattern) != len(term):
        return None
    for one, other in zip(pattern[1:], term[1:]):
        table = matched(one, other, table)
        if table is None:
            return None
    return table


def is_instance(clause, general):
    """Whether a clause is an instance of another one, literal by literal."""
    if len(clause) != len(general):
        return False
    table = {}
    for (sign, left, right), (other_sign, one, other) in zip(clause, general):
        if sign != other_sign:
            return False
        for pattern, term in ((one, left), (other, right)):
            table = None if table is None else matched(pattern, term, table)
    return table is not None


def is_truth(literal):
    return YES in literal[1:]


# Steps, by the words of [38] and [39].

def steps_told(clauses):
    """All tuples that are steps for a row of clauses, ascending as all_steps has them."""
    found = []
    for i, clause in enumerate(clauses):
        found += [("resolved", i, a) for a, literal in enumerate(clause) if not literal[0]]
        equations = [a for a, literal in enumerate(clause) if literal[0]]
        found += [("factored", i, a, s, b, t) for a in equations for s in (0, 1) for b in equations for t in (0, 1)
                  if a != b]
        for j, other in enumerate(clauses):
            for a, s, b, t in itertools.product(equations, (0, 1), range(len(other)), (0, 1)):
                found += [("put in", i, a, s, j, b, t, path) for path, part in parts(other[b][1 + t])
                          if isinstance(part, tuple)]
    return found


def joined(clauses, step):
    """The clauses of a step made unlike, the two terms, and the literals that are left ahead of putting in."""
    i, a = step[1:3]
    first = clauses[i]
    if step[0] == "resolved":
        return first, (), first[a][1], first[a][2], first[:a] + first[a + 1:]
    left, right = first[a][1 + step[3]], first[a][2 - step[3]]
    if step[0] == "factored":
        b, t = step[4:]
        u, v = first[b][1 + t], first[b][2 - t]
        rest = tuple(literal for index, literal in enumerate(first) if index not in (a, b))
        return first, (), left, u, rest + ((False, right, v), (True, u, v))
    j, b, t, place = step[4:]
    many = len(clause_variables(first))
    second = put_all(clauses[j], {variable: variable + many for variable in clause_variables(clauses[j])})
    sign, u, v = second[b][0], second[b][1 + t], second[b][2 - t]
    rest = first[:a] + first[a + 1:] + second[:b] + second[b + 1:]
    return first, second, left, dict(parts(u))[place], rest + ((sign, with_part(u, place, right), v),)


def unifier_of(clauses, step):
    """The dict of the most general unifier of a step, or None where it has no conclusion."""
    first, second, left, met, _ = joined(clauses, step)
    if step[0] != "resolved":
        if step[0] == "factored":
            met_is_truth = is_truth(first[step[4]])
        else:
            met_is_truth = is_truth(second[step[5]]) and step[7] == ()
        if left == YES or is_truth(first[step[2]]) != met_is_truth:
            return None
    return unified(left, met)


def conclusion(clauses, step):
    table = unifier_of(clauses, step)
    return None if table is None else plain(put_all(joined(clauses, step)[4], table))


def needed(order, clauses, step):
    table = unifier_of(clauses, step)
    if table is None:
        return False
    first, second, left, _, _ = joined(clauses, step)
    a = step[2]
    own = put_all(first, table)
    others = [compared_literals(order, literal, own[a]) for index, literal in enumerate(own) if index != a]
    if step[0] == "resolved":
        return "above" not in others
    right = first[a][2 - step[3]]
    if compared(order, filled(right, table), filled(left, table)) in AT_LEAST:
        return False
    if step[0] == "factored":
        return "above" not in others
    b, t = step[5:7]
    sign, u, v = second[b][0], second[b][1 + t], second[b][2 - t]
    if compared(order, filled(v, table), filled(u, table)) in AT_LEAST:
        return False
    if "above" in others or "alike" in others:
        return False
    target = put_all(second, table)
    others = [compared_literals(order, literal, target[b]) for index, literal in enumerate(target) if index != b]
    return "above" not in others and not (sign and "alike" in others)


def needed_steps(order, clauses):
    return [(step, conclusion(clauses, step)) for step in steps_told(clauses) if needed(order, clauses, step)]


# Papers, by the words of [43] and [45].

def ways(order, clause, lot, strict):
    """All ways (n, side, table, a, t, place, r x) in which a lot leads a clause on, in the order of [45]."""
    for a, literal in enumerate(clause):
        for t in (0, 1):
            for place, part in parts(literal[1 + t]):
                for n, other in enumerate(lot):
                    for side in (0, 1):
                        way = way_of(order, literal, lot, (n, side), t, place, part)
                        if way is not None and (not strict or is_strict(order, literal, t, place, way[3])):
                            yield way[:3] + (a, t, place, way[3])


def way_of(order, literal, lot, pair, t, place, part):
    n, side = pair
    if len(lot[n]) != 1 or not lot[n][0][0]:
        return None
    left, right = lot[n][0][1 + side], lot[n][0][2 - side]
    if not set(variables(right)) <= set(variables(left)):
        return None
    table = matched(left, part, {})
    if table is None or is_truth(literal) and place == () and isinstance(left, int):
        return None
    new = filled(right, table)
    return (n, side, table, new) if compared(order, part, new) == "above" else None


def is_strict(order, literal, t, place, new):
    return not literal[0] or place != () or compared(order, literal[2 - t], new) == "above"


def led(clause, way):
    a, t, place, new = way[3:]
    sides = list(clause[a][1:])
    sides[t] = with_part(sides[t], place, new)
    return clause[:a] + ((clause[a][0],) + tuple(sides),) + clause[a + 1:]


def has_end(clause, lot):
    """Whether a clause has a paper that is no led."""
    if any(sign and left == right for sign, left, right in clause):
        return True
    for one, other in itertools.combinations(clause, 2):
        if one[0] != other[0] and other[1:] in (one[1:], one[:0:-1]):
            return True
    return any(is_within(pattern, clause) for pattern in lot)


def is_within(pattern, clause, table=None, places=()):
    """Whether all literals of a pattern, put in, stand at unlike places of a clause."""
    table = {} if table is None else table
    if not pattern:
        return True
    for place, literal in enumerate(clause):
        for turn in (False, True):
            wider = None if place in places else literal_matched(pattern[0], literal, turn, table)
            if wider is not None and is_within(pattern[1:], clause, wider, places + (place,)):
                return True
    return False


def literal_matched(literal, other, turn, table):
    if literal[0] != other[0] or is_truth(literal) != is_truth(other):
        return None
    one, two = other[:0:-1] if turn else other[1:]
    table = matched(literal[1], one, table)
    return None if table is None else matched(literal[2], two, table)


def has_paper(order, clause, lot, strict):
    """Whether leading on by the first way each time comes to a paper that is no led."""
    while not has_end(clause, lot):
        way = next(ways(order, clause, lot, strict), None)
        if way is None:
            return False
        clause = led(clause, way)
    return True


def is_just(value, model):
    """Whether any value is just a model of tuples, strings and numbers: True is not 1."""
    if type(value) is not type(model):
        return False
    if isinstance(model, tuple):
        return len(value) == len(model) and all(is_just(part, like) for part, like in zip(value, model))
    return value == model
