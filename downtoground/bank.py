"""Ground terms by numbers: the same term has the same number, so no two terms are held side by side."""

from downtoground.parts import parts_of, taken_off


class Bank:
    """Ground terms, each with a number; the parts of a term have lower numbers than it.

    `terms` are the terms, `rows` the numbers of their arguments, by their own numbers.
    """

    def __init__(self):
        self.terms = []
        self.rows = []
        # Terms may be deep: so they are looked up by their names and the numbers of their arguments.
        self.numbers = {}

    def number_of(self, term):
        """The number of a ground term; new terms get the next ones."""
        done = []
        for part in reversed(parts_of(term)):
            row = taken_off(done, len(part) - 1)
            done.append(self.number_with(part[0], tuple(row)))
        return done[0]

    def number_with(self, name, row):
        """The number of the term with a name and arguments of these numbers."""
        key = (name,) + row
        if key not in self.numbers:
            self.numbers[key] = len(self.terms)
            self.terms.append((name,) + tuple(self.terms[number] for number in row))
            self.rows.append(row)
        return self.numbers[key]


class Ranking:
    """A bank of ground terms of an order, and which of two of them is above the other, by numbers.

    `places` leads from each name to the pair of its weight and its place.
    """

    def __init__(self, order):
        ranked = (("yes", 0, 1),) + order.things + order.truths
        self.places = {name: (weight, place) for place, (name, _, weight) in enumerate(ranked)}
        self.bank = Bank()
        # The weights of the terms, by numbers, as far as they have been asked for.
        self.weights = []

    def weight_of(self, number):
        """The weight of a term."""
        for next_one in range(len(self.weights), number + 1):
            own = self.places[self.bank.terms[next_one][0]][0]
            self.weights.append(own + sum([self.weights[part] for part in self.bank.rows[next_one]]))
        return self.weights[number]

    def is_above(self, one, other):
        """Whether a term is above another one."""
        while one != other:
            if self.weight_of(one) != self.weight_of(other):
                return self.weight_of(one) > self.weight_of(other)
            name, other_name = self.bank.terms[one][0], self.bank.terms[other][0]
            if name != other_name:
                return self.places[name][1] > self.places[other_name][1]
            pairs = list(zip(self.bank.rows[one], self.bank.rows[other]))
            one, other = [pair for pair in pairs if pair[0] != pair[1]][0]
        return False
