"""The search for a unifier: equations told one behind the other, until no one is left to look at."""

from downtoground.parts import places_of


class Reckoning:
    """The equations told so far, the steps that tell them, and the variables that they bind.

    `bound` leads from a variable to the pair (equation, side) at which it stands; the other side
    of that equation is what it stands for. These never lead round, as a ring is looked for ahead.
    """

    def __init__(self, one, other):
        self.equations = [(one, other)]
        self.steps = []
        self.bound = {}

    def tell(self, step, equation):
        """The number of the equation that a step tells, or None if it asks nothing new."""
        if equation[0] == equation[1] or equation in self.equations:
            # What is told already is looked at once: so there are only as many as pairs of parts.
            return None
        self.steps.append(step)
        self.equations.append(equation)
        return len(self.equations) - 1

    def bound_side(self, number):
        """The first side of an equation that is a bound variable, or None."""
        for side in (0, 1):
            part = self.equations[number][side]
            if isinstance(part, int) and part in self.bound:
                return side
        return None

    def led_on(self, number):
        """The equation, joined from the one at this number, without a bound variable as a side.

        None if one on the way asks nothing new.
        """
        side = self.bound_side(number)
        while side is not None:
            by, by_side = self.bound[self.equations[number][side]]
            equation = (self.equations[number][1 - side], self.equations[by][1 - by_side])
            number = self.tell(("joined", number, side, by, by_side), equation)
            if number is None:
                return None
            side = self.bound_side(number)
        return number

    def downs(self, number):
        """The numbers of the new equations between the arguments of both sides."""
        left, right = self.equations[number]
        found = []
        for index in range(len(left) - 1):
            told = self.tell(("down", number, index), (left[index + 1], right[index + 1]))
            if told is not None:
                found.append(told)
        return found

    def bind(self, number):
        """Binds the variable that is a side of an equation; tells the row of the ring that bars it."""
        side = 0 if isinstance(self.equations[number][0], int) else 1
        variable = self.equations[number][side]
        row = self.ring(variable, number, side, {})
        if row is None:
            self.bound[variable] = (number, side)
        return row

    def ring(self, variable, number, side, seen):
        """The row that leads from a side of an equation back to the variable, or None."""
        for path, part in places_of(self.equations[number][1 - side]):
            if part == variable:
                return ((number, side, path),)
            if isinstance(part, int) and part in self.bound and part not in seen:
                seen[part] = True
                by, by_side = self.bound[part]
                row = self.ring(variable, by, by_side, seen)
                if row is not None:
                    return ((number, side, path),) + row
        return None

    def resolved(self, term, done):
        """The term with all that is bound put in; done keeps what each variable came to."""
        if isinstance(term, tuple):
            parts = [term[0]]
            for part in term[1:]:
                parts.append(self.resolved(part, done))
            return tuple(parts)
        if term not in self.bound:
            return term
        if term not in done:
            number, side = self.bound[term]
            done[term] = self.resolved(self.equations[number][1 - side], done)
        return done[term]

    def substitution(self):
        """The pairs of all bound variables and what they come to."""
        done = {}
        return tuple((variable, self.resolved(variable, done)) for variable in sorted(self.bound))
