"""How a lot of clauses leads a clause on, and what covers it."""

from downtoground.clauses import is_truth
from downtoground.orders import compare, is_above, is_above_evenly, is_even
from downtoground.parts import filled, places_of
from downtoground.terms import put_at, variables_of


class Covering:
    """A lot of clauses, and in `units` those sides of its equations that may lead on.

    Each is a tuple (n, side, l, r, way): way is "above" where l is above r, whatever is put in, or
    "even", where both have one weight and so on, whatever is put in, or None.
    """

    def __init__(self, order, lot):
        self.order = order
        self.lot = lot
        self.units = [unit for n, clause in enumerate(lot) if len(clause) == 1 and clause[0][0]
                      for side in (0, 1) for unit in self.units_of(n, side)]

    def units_of(self, n, side):
        """A list of the unit of a side of clause n, if it may lead on."""
        literal = self.lot[n][0]
        left, right = literal[1 + side], literal[2 - side]
        way = compare(self.order, left, right)
        if way is None and is_even(self.order, left, right):
            way = "even"
        if way == "above" or way == "even" or way is None and has_all(left, right):
            return [(n, side, left, right, way)]
        return []

    def paper(self, clause, strict):
        """A paper of a clause, or None, as paper_for tells it."""
        ways = []
        end = self.end_of(clause)
        while end is None:
            way = self.first_way(clause, strict)
            if way is None:
                return None
            ways.append(way[:-1])
            clause = led_on(clause, way)
            end = self.end_of(clause)
        for way in reversed(ways):
            end = ("led",) + way + (end,)
        return end

    def first_way(self, clause, strict):
        """The first way (n, side, laying, a, t, place, r x) in which the lot leads a clause on, or None."""
        for a, literal in enumerate(clause):
            for t in (0, 1):
                for place, part in places_of(literal[1 + t]):
                    if isinstance(part, tuple):
                        way = self.way_at(literal, t, place, part, strict)
                        if way is not None:
                            return way[:3] + (a, t, place, way[3])
        return None

    def way_at(self, literal, t, place, part, strict):
        """The first tuple (n, side, laying, r x) of a unit that leads on a part of a literal, or None."""
        for n, side, left, right, way in self.units:
            if isinstance(left, int):
                if place == () and is_truth(literal):
                    continue
            elif left[0] != part[0]:
                continue
            table = matched(((left, part),), {})
            if table is not None:
                new = filled(right, table)
                if self.falls(way, part, new) and (not strict or is_strict(self.order, literal, t, place, new)):
                    return (n, side, laying_of(table), new)
        return None

    def falls(self, way, part, new):
        """Whether a part is above what a unit of this way puts in its place."""
        if way == "even":
            return is_above_evenly(self.order, part, new)
        return way == "above" or is_above(self.order, part, new)

    def end_of(self, clause):
        """A paper of a clause that is no led, or None."""
        for index, (sign, left, right) in enumerate(clause):
            if sign and left == right:
                return ("same", index)
        for index, (sign, left, right) in enumerate(clause):
            for place, other in enumerate(clause):
                if sign and not other[0] and other[1:] in ((left, right), (right, left)):
                    return ("both", index, place)
        for n, pattern in enumerate(self.lot):
            found = within(pattern, clause)
            if found is not None:
                return ("within", n) + found
        return None


def has_all(left, right):
    """Whether all variables of a term stand in another one."""
    known = variables_of(left)
    return all([variable in known for variable in variables_of(right)])


def is_strict(order, literal, t, place, new):
    """Whether a literal is led on strictly, with a new part at a place of a side."""
    return not literal[0] or place != () or is_above(order, literal[2 - t], new)


def led_on(clause, way):
    """The clause behind a way in which it is led on."""
    _, _, _, a, t, place, new = way
    sign, left, right = clause[a]
    if t == 0:
        literal = (sign, put_at(left, place, new), right)
    else:
        literal = (sign, left, put_at(right, place, new))
    return clause[:a] + (literal,) + clause[a + 1:]


def laying_of(table):
    """The pairs of a dict from variables to terms, ascending."""
    return tuple([(variable, table[variable]) for variable in sorted(table)])


def matched(pairs, table):
    """The dict, with more variables, that makes the first term of each pair the second one, or None."""
    wider = dict(table)
    for one, other in pairs:
        if not _is_bound(one, other, wider):
            return None
    return wider


def _is_bound(one, other, table):
    """Whether a dict, to which variables are put, makes a term another one."""
    if isinstance(one, int):
        return table.setdefault(one, other) == other
    if isinstance(other, int) or one[0] != other[0]:
        return False
    for index in range(1, len(one)):
        if not _is_bound(one[index], other[index], table):
            return False
    return True


def within(pattern, clause):
    """A pair (laying, places) that shows all literals of a pattern within a clause, or None."""
    if len(pattern) > len(clause):
        return None
    ways = []
    for literal in pattern:
        ways.append(_ways_within(literal, clause))
        if not ways[-1]:
            return None
    # Literals with few ways first: what fails does so soon.
    turn = [index for _, index in sorted([(len(row), index) for index, row in enumerate(ways)])]
    found = _all_within(pattern, ways, turn, {}, ())
    if found is None:
        return None
    table, chosen = found
    places = dict(zip(turn, chosen))
    return (laying_of(table), tuple([places[index] for index in range(len(pattern))]))


def _ways_within(literal, clause):
    """A list of the pairs (place, pairs of sides) at which a literal by itself is one of a clause."""
    found = []
    for place, other in enumerate(clause):
        if other[0] == literal[0] and is_truth(other) == is_truth(literal):
            for one, two in ((other[1], other[2]), (other[2], other[1])):
                table = {}
                if _is_bound(literal[1], one, table) and _is_bound(literal[2], two, table):
                    found.append((place, ((literal[1], one), (literal[2], two))))
    return found


def _all_within(pattern, ways, turn, table, chosen):
    """A dict from variables to terms, and the places of the literals in their turn, or None."""
    if len(chosen) == len(turn):
        return table, chosen
    tried = []
    for place, pairs in ways[turn[len(chosen)]]:
        # What did not do at one place does not at another one at which just the same stands.
        if place not in chosen and pairs not in tried:
            tried.append(pairs)
            wider = matched(pairs, table)
            if wider is not None:
                found = _all_within(pattern, ways, turn, wider, chosen + (place,))
                if found is not None:
                    return found
    return None
