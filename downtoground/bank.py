"""Ground terms by numbers: the same term has the same number, so no two terms are held side by side."""

from downtoground.parts import parts_of, taken_off


class Bank:
    """Ground terms, each with a number; the parts of a term have lower numbers than it.

    `terms` are the terms, `rows` the numbers of their arguments, by their own numbers.
    """

    def __init__(self):
        self.terms = []
        self.rows = []
        # Terms may be deep: so they are looked up by their names and the numbers of their arguments.
        self.numbers = {}

    def number_of(self, term):
        """The number of a ground term; new terms get the next ones."""
        done = []
        for part in reversed(parts_of(term)):
            row = taken_off(done, len(part) - 1)
            done.append(self.number_with(part[0], tuple(row)))
        return done[0]

    def number_with(self, name, row):
        """The number of the term with a name and arguments of these numbers."""
        key = (name,) + row
        if key not in self.numbers:
            self.numbers[key] = len(self.terms)
            self.terms.append((name,) + tuple(self.terms[number] for number in row))
            self.rows.append(row)
        return self.numbers[key]
