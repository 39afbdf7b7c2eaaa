"""What the tests of loops and judges reckon by themselves, straight off the document."""

from tests.calculus import (clause_variables, conclusion, drawn_clause, is_just, joined, plain, put_all, steps_told, unifier_of)
from tests.helpers import compared, filled, variables


def is_line(clauses, row, line):
    """Whether a pair is a line behind those whose clauses are a row."""
    step, clause = line
    if step[0] == "input":
        return clause == plain(clauses[step[1]])
    return is_step(row, step) and conclusion(row, step) == clause


def is_step(row, step):
    """Whether any value is a step for a row: by all steps of the one or two clauses that it names."""
    if type(step) is not tuple or len(step) not in (3, 6, 8) or type(step[0]) is not str:
        return False
    named = [step[1]] + ([step[4]] if len(step) == 8 else [])
    if not all(type(index) is int and 0 <= index < len(row) for index in named):
        return False
    own = [row[index] for index in named]
    places = {0: named[0], 1: named[-1]}
    for told in steps_told(own):
        if told[0] == step[0] and told[1] == 0 and (len(told) < 8 or told[4] == 1):
            moved = (told[0], places[0]) + told[2:4] + ((places[1],) + told[5:] if len(told) == 8 else told[4:])
            if is_just(step, moved):
                return True
    return False


def are_lines(clauses, lines):
    return all(is_line(clauses, [clause for _, clause in lines[:index]], line) for index, line in enumerate(lines))


def needs(step):
    if step[0] == "input":
        return []
    return [step[1]] + ([step[4]] if step[0] == "put in" else [])


def least_constant(order):
    constants = [(name,) for name, arity, _ in order.things if arity == 0]
    return [one for one in constants if all(compared(order, one, other) != "above" for other in constants)][0]


def fillings(order, row, step, filling):
    """The fillings behind one, by the words of [38]."""
    table = unifier_of(row, step)
    first, second, _, _, rest = joined(row, step)
    names = clause_variables(put_all(rest, table))
    ground = {name: dict(filling)[number] for number, name in enumerate(names)}
    found = []
    for clause, many in [(first, 0)] + ([(second, len(clause_variables(first)))] if second else []):
        own = []
        for variable in sorted(clause_variables(clause)):
            term = filled(variable, table)
            worth = {name: ground.get(name, least_constant(order)) for name in variables(term)}
            own.append((variable - many, filled(term, worth)))
        found.append(tuple(own))
    return found


def walk(order, clauses, lines):
    """The pairs of grounded, in the order in which they are met, and the ground lines."""
    row = [clause for _, clause in lines]
    places = {}
    met = []
    told = []
    asked = []

    def ask(index, filling):
        key = (index, repr(filling))
        if key in asked:
            return
        asked.append(key)
        step = lines[index][0]
        ground = put_all(row[index], dict(filling))
        if step[0] == "input":
            names = clause_variables(clauses[step[1]])
            own = tuple(sorted((names[number], term) for number, term in filling))
            if (step[1], own) not in met:
                met.append((step[1], own))
            told.append((("input", step[1], own), ground))
        else:
            below = list(zip(needs(step), fillings(order, row, step, filling)))
            for pair in below:
                ask(*pair)
            told.append((("follows", tuple(places[(number, repr(other))] for number, other in below)), ground))
        places[key] = len(told) - 1

    ask(len(lines) - 1, ())
    return met, told


def drawn_rows(draw, order, many, most=4):
    """Rows of drawn clauses, such as come to an answer soon and such as do not."""
    for _ in range(many):
        yield tuple(drawn_clause(draw, order, draw.choice((1, 1, 2, 3)), 2, 3) for _ in range(draw.randint(1, most)))
