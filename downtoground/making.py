"""Ground rules made by the instances of clauses, as far as they are asked for."""

from downtoground.bank import Ranking
from downtoground.clauses import put_in, variables_in
from downtoground.orders import compare_clauses, things_to
from downtoground.parts import parts_of, taken_off
from downtoground.terms import match
from downtoground.values import all_rows


class Instance:
    """A ground instance of a clause with a literal that may be a rule, above each other literal.

    `right` is the right of the rule, `literals` are the other literals, all by numbers; `table` leads
    from the variables of the clause of this index to the numbers of what is put in.
    """

    def __init__(self, index, table, right, literals):
        self.index = index
        self.table = table
        self.right = right
        self.literals = literals


class Making:
    """What is known of the rules that clauses make, and of normal forms under all of them.

    By the numbers of ground terms `rules` tells the Instance that makes a rule with this left, or
    None, `forms` the numbers of normal forms, `lefts` the Instances that may make a rule.
    """

    def __init__(self, order, clauses):
        self.order = order
        self.clauses = clauses
        self.ranking = Ranking(order)
        self.bank = self.ranking.bank
        self.things = {name: True for name, _, _ in order.things}
        self.rules = {}
        self.forms = {}
        self.lefts = {}

    def rule_of(self, number):
        """The Instance that makes a rule with this left, or None."""
        self.find_out([("rule", number)])
        return self.rules[number]

    def form_of(self, number):
        """The number of the normal form of a number."""
        self.find_out([("form", number)])
        return self.forms[number]

    def find_out(self, waiting):
        """Finds out rules and normal forms, each behind those that it needs; these are all lower."""
        # There may be many below a term: so no function calls itself here.
        while waiting:
            kind, number = waiting[-1]
            needed = self.needed_for_rule(number) if kind == "rule" else self.needed_for_form(number)
            if needed:
                waiting.extend(needed)
            else:
                waiting.pop()

    def unknown_forms(self, numbers):
        """A list of what is to be found out of the normal forms of some numbers."""
        return [("form", number) for number in numbers if number not in self.forms]

    def needed_for_form(self, number):
        """What must be found out ahead of a normal form; if that is nothing, the form is known now."""
        if number in self.forms:
            return []
        unknown = self.unknown_forms(self.bank.rows[number])
        if unknown:
            return unknown
        led = self.led_number(number)
        if led not in self.rules:
            return [("rule", led)]
        if self.rules[led] is None:
            self.forms[number] = led
        elif self.rules[led].right in self.forms:
            self.forms[number] = self.forms[self.rules[led].right]
        else:
            return [("form", self.rules[led].right)]
        return []

    def led_number(self, number):
        """The number of a term with its arguments in normal form."""
        row = tuple([self.forms[part] for part in self.bank.rows[number]])
        return self.bank.number_with(self.bank.terms[number][0], row)

    def needed_for_rule(self, number):
        """What must be found out ahead of a rule; if that is nothing, it is known now."""
        if number in self.rules:
            return []
        unknown = self.unknown_forms(self.bank.rows[number])
        if unknown:
            return unknown
        if self.led_number(number) != number:
            self.rules[number] = None
            return []
        if number not in self.lefts:
            self.lefts[number] = self.instances_of(number)
        self.lefts[number] = [instance for instance in self.lefts[number] if not self.is_known_true(instance)]
        asked = {side: True for instance in self.lefts[number] for side in self.sides_asked(number, instance)}
        unknown = self.unknown_forms(asked)
        if not unknown:
            self.rules[number] = self.least_false(number, self.lefts.pop(number))
        return unknown

    def is_known_true(self, instance):
        """Whether some literal of an Instance, but that of the rule, is known to be true by now."""
        for sign, one, other in instance.literals:
            if one in self.forms and other in self.forms and (self.forms[one] == self.forms[other]) == sign:
                return True
        return False

    def sides_asked(self, left, instance):
        """A list of the numbers whose normal forms tell whether an Instance is false."""
        # With the rule added the left has the normal form of the right.
        return [instance.right if side == left else side
                for _, one, other in instance.literals for side in (one, other)]

    def least_false(self, left, instances):
        """The least of the Instances that are false without the rule, and with it but for its literal."""
        best = None
        for instance in instances:
            if all([self.is_false(left, instance.right, literal) for literal in instance.literals]):
                if best is None or self.is_less(instance, best):
                    best = instance
        return best

    def is_false(self, left, right, literal):
        """Whether a literal is false under all rules with lower lefts, and with the rule added to these."""
        sign, one, other = literal
        without = [left if side == left else self.forms[side] for side in (one, other)]
        added = [self.forms[right] if side == left else self.forms[side] for side in (one, other)]
        return (without[0] == without[1]) != sign and (added[0] == added[1]) != sign

    def is_less(self, instance, other):
        """Whether the clause of an Instance is below that of another one."""
        return compare_clauses(self.order, self.clause_of(instance), self.clause_of(other)) == "below"

    def clause_of(self, instance):
        """The ground clause of an Instance."""
        return put_in(self.clauses[instance.index], self.terms_of(instance))

    def terms_of(self, instance):
        """The dict from the variables of the clause of an Instance to what is put in."""
        return {variable: self.bank.terms[number] for variable, number in instance.table.items()}

    def instances_of(self, number):
        """A list of all Instances with a literal that may be a rule with this left."""
        left = self.bank.terms[number]
        found = []
        things = None
        for index, clause in enumerate(self.clauses):
            for a, s, pairs in self.sides_matching(clause, left):
                table = {variable: self.bank.number_of(term) for variable, term in pairs}
                others = [variable for variable in variables_in(clause) if variable not in table]
                if others and things is None:
                    things = [self.bank.number_of(term) for term in things_to(self.order, left)]
                for row in all_rows(len(things) if others else 0, len(others)):
                    for variable, place in zip(others, row):
                        table[variable] = things[place]
                    instance = self.instance_by(index, a, s, dict(table), number)
                    if instance is not None:
                        found.append(instance)
        return found

    def sides_matching(self, clause, left):
        """A list of triples: an equation's index, a side of it, and what makes that the left."""
        found = []
        for a, literal in enumerate(clause):
            for s in (0, 1):
                side = literal[1 + s]
                # Variables stand for things alone.
                if literal[0] and (isinstance(side, tuple) or left[0] in self.things):
                    pairs = match(side, left)
                    if pairs is not None:
                        found.append((a, s, pairs))
        return found

    def instance_by(self, index, a, s, table, left):
        """The Instance of a clause by a dict, if its literal with the left is above each other one, or None."""
        clause = self.clauses[index]
        right = self.number_put(clause[a][2 - s], table)
        if not self.ranking.is_above(left, right):
            return None
        literals = []
        for place, (sign, one, other) in enumerate(clause):
            if place != a:
                sides = (self.number_put(one, table), self.number_put(other, table))
                if not self.is_lower(sign, sides, left, right):
                    return None
                literals.append((sign,) + sides)
        return Instance(index, table, right, literals)

    def is_lower(self, sign, sides, left, right):
        """Whether an equation of a left and a right below it is above a literal."""
        for side, other in (sides, sides[::-1]):
            if side == left:
                return sign and self.ranking.is_above(right, other)
            if not self.ranking.is_above(left, side):
                return False
        return True

    def number_put(self, term, table):
        """The number of a term with a dict's numbers in the places of its variables."""
        done = []
        for part in reversed(parts_of(term)):
            if isinstance(part, int):
                done.append(table[part])
            else:
                done.append(self.bank.number_with(part[0], tuple(taken_off(done, len(part) - 1))))
        return done[0]

    def rules_used(self, numbers):
        """A list of the lefts of the rules that lead some numbers to their normal forms, ascending."""
        used = {}
        seen = {}
        waiting = list(numbers)
        while waiting:
            number = waiting.pop()
            if number not in seen:
                seen[number] = True
                self.form_of(number)
                led = self.led_number(number)
                waiting.extend(self.bank.rows[number])
                if self.rules[led] is not None:
                    used[led] = True
                    waiting.append(self.rules[led].right)
        return self.ascending(list(used))

    def ascending(self, numbers):
        """The list of some numbers, ascending by their terms."""
        found = []
        for number in numbers:
            place = 0
            while place < len(found) and self.ranking.is_above(number, found[place]):
                place += 1
            found.insert(place, number)
        return found
