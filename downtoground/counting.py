"""Ground terms counted, told by their numbers, and listed, weight by weight.

Names are triples (name, arity, weight), in the order of their places. Terms of one weight stand
in the order of their names, and with one name in the order of their first unlike arguments.
"""


class Counts:
    """How many rows of ground things there are, by how many stand in a row and what they weigh.

    rows[m][w] is for m things that weigh w in all; `grow` adds the next weight to all of them.
    """

    def __init__(self, things, truths):
        self.things = things
        self.names = things + truths
        self.weights = {name: own for name, _, own in self.names}
        longest = max([1] + [arity for _, arity, _ in self.names])
        self.rows = [[1]] + [[0] for _ in range(longest)]

    def grow(self):
        """Adds the next weight; what it needs is of lower weights alone."""
        weight = len(self.rows[0])
        self.rows[0].append(0)
        self.rows[1].append(sum(self.many(arity, weight - own) for _, arity, own in self.things))
        firsts = self.rows[1]
        for longer in range(2, len(self.rows)):
            rests = self.rows[longer - 1]
            self.rows[longer].append(sum(firsts[own] * rests[weight - own] for own in range(1, weight)))

    def many(self, arity, weight):
        """How many rows of so many things weigh so much."""
        return 0 if weight < 0 else self.rows[arity][weight]

    def weighing(self, weight):
        """How many ground terms weigh so much, ("yes",) among them."""
        named = sum(self.many(arity, weight - own) for _, arity, own in self.names)
        return named + (1 if weight == 1 else 0)


def counts_to(things, truths, weight):
    """The Counts that know all weights up to this one."""
    counts = Counts(things, truths)
    for _ in range(weight):
        counts.grow()
    return counts


def ahead_of(counts, term):
    """The weight of a term other than ("yes",), and how many such ones of this weight are below it."""
    parts = []
    for part in term[1:]:
        parts.append(ahead_of(counts, part))
    weight = counts.weights[term[0]] + sum(own for own, _ in parts)
    ahead = _rows_ahead(counts, parts)
    for name, arity, own in counts.names:
        if name == term[0]:
            break
        ahead += counts.many(arity, weight - own)
    return (weight, ahead)


def _rows_ahead(counts, parts):
    """How many rows of things are ahead of one, of as many, that weigh as much in all.

    Its things are told by pairs as ahead_of tells them.
    """
    total = 0
    left = sum(own for own, _ in parts)
    for index, (own, ahead) in enumerate(parts):
        rests = counts.rows[len(parts) - index - 1]
        for less in range(1, own):
            total += counts.rows[1][less] * rests[left - less]
        total += ahead * rests[left - own]
        left -= own
    return total


def term_with(counts, names, weight, number):
    """The term of a weight, with one of the names, that has so many such ones below it."""
    for name, arity, own in names:
        many = counts.many(arity, weight - own)
        if number < many:
            parts = [name]
            for part_weight, part_number in _row_with(counts, arity, weight - own, number):
                parts.append(term_with(counts, counts.things, part_weight, part_number))
            return tuple(parts)
        number -= many
    return None


def _row_with(counts, arity, weight, number):
    """The pairs (weight, number) of the things of the row that has so many ahead of it."""
    pairs = []
    for later in range(arity - 1, -1, -1):
        rests = counts.rows[later]
        own = 1
        while number >= counts.rows[1][own] * rests[weight - own]:
            number -= counts.rows[1][own] * rests[weight - own]
            own += 1
        first, number = divmod(number, rests[weight - own])
        pairs.append((own, first))
        weight -= own
    return pairs


def terms_weighing(names, known, weight):
    """A list of all terms of a weight with one of the names, ascending.

    known[w] is a list of the ground things of weight w, ascending, for each lower weight.
    """
    found = []
    for name, arity, own in names:
        for row in _rows_weighing(known, arity, weight - own):
            found.append((name,) + row)
    return found


def _rows_weighing(known, many, weight):
    """A list of all rows of so many things that weigh so much in all, ascending."""
    if many == 0:
        return [()] if weight == 0 else []
    found = []
    for own in range(1, weight - many + 2):
        found.extend(_rows_behind((), known[own], known, many - 1, weight - own))
    return found


def _rows_behind(begun, firsts, known, many, weight):
    """The rows that go on from those begun by one of the firsts and so many things of a weight."""
    if not firsts:
        return []
    rests = _rows_weighing(known, many, weight)
    return [begun + (first,) + rest for first in firsts for rest in rests]


def rows_below(known, parts, weights):
    """A list of all rows of things ahead of one, of as many, that weigh as much in all, ascending.

    weights are those of its things.
    """
    found = []
    left = sum(weights)
    for index, part in enumerate(parts):
        later = len(parts) - index - 1
        for own in range(1, weights[index] + 1):
            firsts = known[own]
            if own == weights[index]:
                firsts = firsts[:firsts.index(part)]
            found.extend(_rows_behind(parts[:index], firsts, known, later, left - own))
        left -= weights[index]
    return found
