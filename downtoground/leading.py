"""Normal forms under ground rules, and the judge of such rules. Values may be any here."""

from downtoground.bank import Bank, Ranking


class Leading:
    """Falling lean rules, and the normal forms that are known under them, by numbers in a bank."""

    def __init__(self, rules):
        self.bank = Bank()
        self.forms = {}
        self.rights = {self.bank.number_of(left): self.bank.number_of(right) for left, right in rules}

    def normal(self, term):
        """The normal form of a ground term."""
        return self.bank.terms[self.form_of(self.bank.number_of(term))]

    def are_one(self, one, other):
        """Whether two ground terms have one normal form."""
        return self.form_of(self.bank.number_of(one)) == self.form_of(self.bank.number_of(other))

    def holds(self, clause):
        """Whether some literal of a ground clause holds."""
        for sign, left, right in clause:
            if self.are_one(left, right) == sign:
                return True
        return False

    def form_of(self, number):
        """The number of the normal form of a number."""
        # Terms may be deep, and rules may lead far: so no function calls itself here.
        waiting = [number]
        while waiting:
            needed = self.needed_for(waiting[-1])
            if needed:
                waiting.extend(needed)
            else:
                waiting.pop()
        return self.forms[number]

    def needed_for(self, number):
        """Numbers whose normal forms must be known first; if there are none, that of the number is."""
        if number in self.forms:
            return []
        row = self.bank.rows[number]
        unknown = [part for part in row if part not in self.forms]
        if unknown:
            return unknown
        name = self.bank.terms[number][0]
        led = self.bank.number_with(name, tuple(self.forms[part] for part in row))
        right = self.rights.get(led)
        if right is None:
            self.forms[number] = led
        elif right in self.forms:
            self.forms[number] = self.forms[right]
        else:
            return [right]
        return []


class Judge:
    """Looks at any values as rules of an order."""

    def __init__(self, order):
        self.things = {name: arity for name, arity, _ in order.things}
        self.others = {name: arity for name, arity, _ in (("yes", 0, 1),) + order.truths}
        self.ranking = Ranking(order)
        self.bank = self.ranking.bank

    def are_rules(self, value):
        """Whether any value is a tuple of pairs that fall and are lean."""
        if not isinstance(value, tuple):
            return False
        if not all([self.is_pair(pair) for pair in value]):
            return False
        numbers = [(self.bank.number_of(left), self.bank.number_of(right)) for left, right in value]
        falling = all([self.ranking.is_above(left, right) for left, right in numbers])
        return falling and self.are_lean([left for left, _ in numbers])

    def is_pair(self, value):
        """Whether any value is a pair of ground terms of the order, both things, or both none."""
        if not isinstance(value, tuple) or len(value) != 2:
            return False
        left, right = value
        if self.is_thing(left):
            return self.is_thing(right)
        return self.is_other(left) and self.is_other(right)

    def is_thing(self, value):
        """Whether any value is a ground thing of the order."""
        waiting = [value]
        while waiting:
            part = waiting.pop()
            if not is_named(self.things, part):
                return False
            waiting.extend(part[:0:-1])
        return True

    def is_other(self, value):
        """Whether any value is a ground atom of the order, or yes."""
        return is_named(self.others, value) and all([self.is_thing(part) for part in value[1:]])

    def are_lean(self, lefts):
        """Whether lefts are unlike, and none is a part of another one."""
        within = {}
        waiting = [part for left in lefts for part in self.bank.rows[left]]
        while waiting:
            part = waiting.pop()
            if part not in within:
                within[part] = True
                waiting.extend(self.bank.rows[part])
        return len({left for left in lefts}) == len(lefts) and not any([left in within for left in lefts])


def is_named(arities, value):
    """Whether any value is a tuple of one of some names and as many more items as its arity."""
    if not isinstance(value, tuple) or len(value) == 0 or not isinstance(value[0], str):
        return False
    return arities.get(value[0]) == len(value) - 1
