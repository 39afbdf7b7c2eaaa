"""Ground terms counted, told by their numbers, and listed, weight by weight.

Names are triples (name, arity, weight), in the order of their places. Terms of one weight stand
in the order of their names, and with one name in the order of their first unlike arguments.
"""

from downtoground.parts import parts_of, taken_off


class Counts:
    """How many rows of ground things there are, by how many stand in a row and what they weigh.

    rows[m][w] is for m things that weigh w in all; `grow` adds the next weight to all of them.
    """

    def __init__(self, things, truths):
        self.things = things
        self.names = things + truths
        self.weights = {name: own for name, _, own in self.names}
        longest = max([1] + [arity for _, arity, _ in self.names])
        self.rows = [[1]] + [[0] for _ in range(longest)]

    def grow(self):
        """Adds the next weight; what it needs is of lower weights alone."""
        weight = len(self.rows[0])
        self.rows[0].append(0)
        self.rows[1].append(sum(self.many(triple, weight) for triple in self.things))
        firsts = self.rows[1]
        for longer in range(2, len(self.rows)):
            rests = self.rows[longer - 1]
            self.rows[longer].append(sum(firsts[own] * rests[weight - own] for own in range(1, weight)))

    def many(self, triple, weight):
        """How many ground terms with a name weigh so much."""
        _, arity, own = triple
        return self.rows[arity][weight - own] if weight >= own else 0

    def weighing(self, weight):
        """How many ground terms weigh so much, ("yes",) among them."""
        named = sum(self.many(triple, weight) for triple in self.names)
        return named + (1 if weight == 1 else 0)


def counts_to(things, truths, weight):
    """The Counts that know all weights up to this one."""
    counts = Counts(things, truths)
    for _ in range(weight):
        counts.grow()
    return counts


def ahead_of(counts, term):
    """The weight of a term other than ("yes",), and how many such ones of this weight are below it."""
    done = []
    # Terms may be as deep as they weigh: so no function calls itself here. From behind, the
    # arguments come ahead of what they stand in.
    for part in reversed(parts_of(term)):
        row = taken_off(done, len(part) - 1)
        done.append(_head_ahead(counts, part[0], row))
    return done[0]


def _head_ahead(counts, head, row):
    """What ahead_of tells of a term with this name, row being what it tells of the arguments."""
    weight = counts.weights[head] + sum(own for own, _ in row)
    ahead = _rows_ahead(counts, row)
    for triple in counts.names:
        if triple[0] == head:
            break
        ahead += counts.many(triple, weight)
    return (weight, ahead)


def _rows_ahead(counts, row):
    """How many rows of things are ahead of one, of as many, that weigh as much in all.

    Its things are told by pairs as ahead_of tells them.
    """
    total = 0
    left = sum(own for own, _ in row)
    for index, (own, ahead) in enumerate(row):
        later = len(row) - index - 1
        rests = counts.rows[later]
        for less in range(_least_first(later, left), own):
            total += counts.rows[1][less] * rests[left - less]
        total += ahead * rests[left - own]
        left -= own
    return total


def _least_first(later, weight):
    """What the first thing of a row weighs at least, so many later ones being in it."""
    # The last one weighs all that is left.
    return max(1, weight) if later == 0 else 1


def term_with(counts, weight, number):
    """The term of a weight, other than ("yes",), that has so many such ones below it."""
    heads = []
    waiting = [(counts.names, weight, number)]
    while waiting:
        names, own, ahead = waiting.pop()
        triple, ahead = _head_with(counts, names, own, ahead)
        heads.append(triple)
        for pair in reversed(_row_with(counts, triple[1], own - triple[2], ahead)):
            waiting.append((counts.things, pair[0], pair[1]))
    done = []
    for name, arity, _ in reversed(heads):
        row = taken_off(done, arity)
        done.append((name,) + tuple(row))
    return done[0]


def _head_with(counts, names, weight, number):
    """The triple of the name of the term at this number, and the number among those with this name."""
    index = 0
    while number >= counts.many(names[index], weight):
        number -= counts.many(names[index], weight)
        index += 1
    return (names[index], number)


def _row_with(counts, many, weight, number):
    """The list of pairs (weight, number) of the things of the row that has so many ahead of it."""
    row = []
    for later in range(many - 1, -1, -1):
        rests = counts.rows[later]
        own = _least_first(later, weight)
        while number >= counts.rows[1][own] * rests[weight - own]:
            number -= counts.rows[1][own] * rests[weight - own]
            own += 1
        first, number = divmod(number, rests[weight - own])
        row.append((own, first))
        weight -= own
    return row


def terms_weighing(names, known, weight):
    """A list of all terms of a weight with one of the names, ascending.

    known[w] is a list of the ground things of weight w, ascending, for each lower weight.
    """
    found = []
    for name, arity, own in names:
        for row in _rows_weighing(known, arity, weight - own):
            found.append((name,) + row)
    return found


def _rows_weighing(known, many, weight):
    """A list of all rows of so many things that weigh so much in all, ascending."""
    if many == 0:
        return [()] if weight == 0 else []
    found = []
    for own in range(_least_first(many - 1, weight), weight - many + 2):
        found.extend(_rows_behind((), known[own], known, many - 1, weight - own))
    return found


def _rows_behind(begun, firsts, known, many, weight):
    """The rows that go on from those begun by one of the firsts and so many things of a weight."""
    if not firsts:
        return []
    rests = _rows_weighing(known, many, weight)
    return [begun + (first,) + rest for first in firsts for rest in rests]


def rows_below(known, parts, row):
    """A list of all rows of things ahead of one, of as many, that weigh as much in all, ascending.

    row tells its things by pairs as ahead_of tells them.
    """
    found = []
    left = sum(own for own, _ in row)
    for index, (weight, ahead) in enumerate(row):
        later = len(row) - index - 1
        for own in range(_least_first(later, left), weight + 1):
            firsts = known[own] if own < weight else known[own][:ahead]
            found.extend(_rows_behind(parts[:index], firsts, known, later, left - own))
        left -= weight
    return found
