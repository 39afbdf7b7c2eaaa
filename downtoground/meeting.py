"""What a step joins: two terms that are made alike, and the literals around them."""

from downtoground.clauses import YES, is_truth, plain_names, put_in, shifted, variables_in, without
from downtoground.orders import compare, compare_literals
from downtoground.parts import filled
from downtoground.terms import Apart, put_at, unify, variables_of
from downtoground.values import is_below, is_worded

AT_LEAST = ("above", "alike")


def part_told(term, path):
    """The part of a term at any value as a path; None if it is no path of it."""
    if not isinstance(path, tuple):
        return None
    for index in path:
        if not isinstance(term, tuple) or not is_below(index, len(term) - 1):
            return None
        term = term[index + 1]
    return term


def is_step(clauses, value):
    """Whether any value is a step for a row of clauses in plain names."""
    if is_worded(value, "resolved", 3):
        return _is_literal(clauses, value[1], value[2], False)
    if is_worded(value, "factored", 6):
        _, i, a, s, b, t = value
        both = _is_literal(clauses, i, a, True) and _is_literal(clauses, i, b, True)
        return both and a != b and is_below(s, 2) and is_below(t, 2)
    if not is_worded(value, "put in", 8):
        return False
    _, i, a, s, j, b, t, place = value
    if not _is_literal(clauses, i, a, True) or not is_below(s, 2) or not is_below(t, 2):
        return False
    if not is_below(j, len(clauses)) or not is_below(b, len(clauses[j])):
        return False
    return isinstance(part_told(clauses[j][b][t + 1], place), tuple)


def _is_literal(clauses, i, a, sign):
    """Whether any values are the index of a clause and that of a literal of it with a sign."""
    return is_below(i, len(clauses)) and is_below(a, len(clauses[i])) and clauses[i][a][0] == sign


class Meeting:
    """A right step for a row of clauses, and what it joins.

    `first` is the clause of the step; `second` the clause that is put into, made unlike, if there is
    one. The terms `left` and `met` are made alike, `right` is the other side of left, `rest` what is
    left of the clauses. `table` tells what the variables come to, `None` if the terms do not meet.
    """

    def __init__(self, clauses, step):
        self.step = step
        self.first = clauses[step[1]]
        self.second = ()
        if step[0] == "put in":
            self.second = shifted(clauses[step[4]], len(variables_in(self.first)))
        side = 0 if step[0] == "resolved" else step[3]
        literal = self.first[step[2]]
        self.left, self.right = literal[1 + side], literal[2 - side]
        self.met, self.rest, is_barred = self._joined()
        self.table = None if is_barred else alike_by(self.left, self.met)

    def _joined(self):
        """The other term that is made alike, what is left of the clauses, and whether that is barred."""
        if self.step[0] == "resolved":
            return self.right, without(self.first, self.step[2]), False
        if self.step[0] == "factored":
            return self._factored()
        sign, side, other = self.sides_of_target()
        a, b, place = self.step[2], self.step[5], self.step[7]
        met = part_told(side, place)
        rest = without(self.first, a) + without(self.second, b) + ((sign, put_at(side, place, self.right), other),)
        return met, rest, self._bars(place == () and is_truth(self.second[b]))

    def _factored(self):
        _, _, a, _, b, t = self.step
        literal = self.first[b]
        met, other = literal[1 + t], literal[2 - t]
        rest = tuple([left for index, left in enumerate(self.first) if index != a and index != b])
        return met, rest + ((False, self.right, other), (True, met, other)), self._bars(is_truth(literal))

    def sides_of_target(self):
        """The sign, the side and the other side of the literal that is put into."""
        literal = self.second[self.step[5]]
        return literal[0], literal[1 + self.step[6]], literal[2 - self.step[6]]

    def _bars(self, met_is_truth):
        """Whether the first term is yes, or just one of both is a truth."""
        return self.left == YES or is_truth(self.first[self.step[2]]) != met_is_truth

    def raw(self):
        """What is left, put in, ahead of its plain names."""
        return put_in(self.rest, self.table)

    def conclusion(self):
        """What is left, in plain names."""
        return plain_names(self.raw())

    def is_needed(self, order):
        """Whether the step, whose terms meet, is needed."""
        first = put_in(self.first, self.table)
        a = self.step[2]
        if self.step[0] == "resolved":
            return not has_other(order, first, a, first[a], ("above",))
        left, right = filled(self.left, self.table), filled(self.right, self.table)
        if compare(order, right, left) in AT_LEAST:
            return False
        if self.step[0] == "factored":
            return not has_other(order, first, a, first[a], ("above",))
        sign, side, other = self.sides_of_target()
        if compare(order, filled(other, self.table), filled(side, self.table)) in AT_LEAST:
            return False
        second = put_in(self.second, self.table)
        b = self.step[5]
        if has_other(order, second, b, second[b], AT_LEAST if sign else ("above",)):
            return False
        return not has_other(order, first, a, first[a], AT_LEAST)

    def fillings(self, least, filling):
        """The fillings of the one or two clauses behind a filling of the conclusion.

        Variables that have gone get the least constant.
        """
        told = dict(filling)
        ground = {variable: told[number] for number, variable in enumerate(variables_in(self.raw()))}
        found = [self._filling_of(self.first, 0, ground, least)]
        if self.second:
            found.append(self._filling_of(self.second, len(variables_in(self.first)), ground, least))
        return tuple(found)

    def _filling_of(self, clause, many, ground, least):
        """The filling of a clause that has so much added to its variables."""
        pairs = []
        for variable in sorted(variables_in(clause)):
            term = self.table.get(variable, variable)
            worth = {part: ground.get(part, least) for part in variables_of(term)}
            pairs.append((variable - many, filled(term, worth)))
        return tuple(pairs)


def alike_by(one, other):
    """The dict of what variables come to where two terms are made alike, or None."""
    told = unify(one, other)
    return None if isinstance(told, Apart) else dict(told.pairs)


def has_other(order, clause, index, literal, ways):
    """Whether some literal of a clause but the one at an index stands in one of the ways to a literal."""
    for place, other in enumerate(clause):
        if place != index and compare_literals(order, other, literal) in ways:
            return True
    return False


def least_constant(order):
    """The least thing of an order that is a name alone."""
    constants = [(name,) for name, arity, _ in order.things if arity == 0]
    least = constants[0]
    for constant in constants:
        if compare(order, constant, least) == "below":
            least = constant
    return least
