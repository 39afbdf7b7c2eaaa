"""The needed steps of a row of clauses."""

from downtoground.clauses import YES
from downtoground.meeting import AT_LEAST, Meeting, has_other
from downtoground.orders import compare
from downtoground.parts import places_of


class Stepping:
    """A row of clauses, and the literals and sides of each that may be those of a needed step.

    What bars a step before anything is put in bars it behind that, too. `greatest` tells by clauses
    the literals to which no other one is above, `sources` the pairs (a, s) of sides that may be put
    in, `targets` the triples (b, t, places) of sides that may be put into, with all (path, part).
    """

    def __init__(self, order, clauses):
        self.order = order
        self.clauses = clauses
        self.greatest = [self.greatest_in(clause, ("above",)) for clause in clauses]
        alone = [self.greatest_in(clause, AT_LEAST) for clause in clauses]
        self.sources = [self.sides_in(clause, row, [True]) for clause, row in zip(clauses, alone)]
        self.targets = []
        for clause, row, alone_row in zip(clauses, self.greatest, alone):
            sides = self.sides_in(clause, row, [True, False])
            self.targets.append([(b, t, parts_in(clause[b][1 + t])) for b, t in sides
                                 if not clause[b][0] or b in alone_row])

    def greatest_in(self, clause, ways):
        """A list of the indices of literals to which no other one stands in one of the ways."""
        return [index for index, literal in enumerate(clause)
                if not has_other(self.order, clause, index, literal, ways)]

    def sides_in(self, clause, row, signs):
        """A list of the pairs (index, side) of literals of these signs whose other side is not at least it."""
        found = []
        for index in row:
            sign, left, right = clause[index]
            if sign in signs:
                way = compare(self.order, left, right)
                if way != "below" and way != "alike" and left != YES:
                    found.append((index, 0))
                if way != "above" and way != "alike" and right != YES:
                    found.append((index, 1))
        return found

    def with_conclusions(self, steps):
        """A list of the pairs (step, conclusion) of those of some steps that are needed."""
        found = []
        for step in steps:
            meeting = Meeting(self.clauses, step)
            if meeting.table is not None and meeting.is_needed(self.order):
                found.append((step, meeting.conclusion()))
        return found

    def alone(self, i):
        """A list of the needed steps of a clause by itself, with their conclusions."""
        clause = self.clauses[i]
        steps = [("resolved", i, a) for a in self.greatest[i] if not clause[a][0]]
        for a in self.greatest[i]:
            for index, s in self.sides_in(clause, [a], [True]):
                for b, literal in enumerate(clause):
                    if b != a and literal[0]:
                        steps.extend([("factored", i, index, s, b, t) for t in (0, 1)])
        return self.with_conclusions(steps)

    def between(self, i, j):
        """A list of the needed steps that put one clause into one, with their conclusions."""
        steps = []
        for a, s in self.sources[i]:
            left = self.clauses[i][a][1 + s]
            for b, t, parts in self.targets[j]:
                steps.extend([("put in", i, a, s, j, b, t, path) for path, part in parts
                              if isinstance(left, int) or left[0] == part[0]])
        return self.with_conclusions(steps)


def parts_in(term):
    """A list of the pairs (path, part) of a term whose parts are no variables."""
    return [(path, part) for path, part in places_of(term) if isinstance(part, tuple)]
