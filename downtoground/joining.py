"""The one row of falling lean rules that leads together what a closure has in one class."""

from heapq import heappop, heappush


class Joining:
    """The terms of a closure, each with its arguments in normal form, taken in ascending order.

    The first one of a class is its normal form; each later one is the left of a rule. `forms` are,
    by the heads of classes, triples (rank, weight, normal form): ranks ascend as the terms do.
    """

    def __init__(self, order, closure):
        ranked = (("yes", 0, 1),) + order.things + order.truths
        self.places = {name: (weight, place) for place, (name, _, weight) in enumerate(ranked)}
        self.closure = closure
        self.forms = {}
        self.rules = []
        self.queue = []
        self.users = {}
        self.missing = []
        for number, row in enumerate(closure.bank.rows):
            self.missing.append(len(row))
            for part in row:
                self.users.setdefault(closure.heads[part], []).append(number)
            if len(row) == 0:
                self.push(number)

    def push(self, number):
        """Puts a term whose arguments have their normal forms into the queue, by its place."""
        weight, place = self.places[self.closure.bank.terms[number][0]]
        forms = self.forms_of(number)
        ranks = tuple(rank for rank, _, _ in forms)
        heappush(self.queue, (weight + sum(own for _, own, _ in forms), place, ranks, number))

    def forms_of(self, number):
        """What is told of the normal forms of the arguments of a number."""
        return [self.forms[self.closure.heads[part]] for part in self.closure.bank.rows[number]]

    def work(self):
        """Goes through all terms; tells the tuple of the rules."""
        last = None
        while self.queue:
            weight, place, ranks, number = heappop(self.queue)
            # Terms with the same arguments in normal form are one; they stand side by side here.
            if (weight, place, ranks) != last:
                last = (weight, place, ranks)
                self.take(number, weight)
        return tuple(self.rules)

    def take(self, number, weight):
        """Makes a term the normal form of its class, or the left of a rule."""
        name = self.closure.bank.terms[number][0]
        term = (name,) + tuple(form for _, _, form in self.forms_of(number))
        head = self.closure.heads[number]
        if head in self.forms:
            self.rules.append((term, self.forms[head][2]))
            return
        self.forms[head] = (len(self.forms), weight, term)
        for user in self.users.get(head, []):
            self.missing[user] -= 1
            if self.missing[user] == 0:
                self.push(user)


def rules_by(order, closure):
    """The rules, ascending by their lefts, that make one what is in one class of a closure."""
    return Joining(order, closure).work()
